import Derived.Test.YtgkkdpegcieakaaGreatDoorCv10
import Derived.Test.YtgkkdpegcieakaaGreatDoorCv11
set_option linter.all false
set_option maxRecDepth 100000
set_option maxHeartbeats 0
namespace Go.Proofs.YtgkkdpegcieakaaGreatDoor
open Go.Proofs.Tryz
open Value renaming int→Z,slice→J,string→H,pointer→V9,bool→Wa,tuple→Wb
open Ending renaming returned→Wd
open Obj renaming cells→D
open Option renaming none→U,some→S
open Bool renaming false→Wg
open List renaming length→Wn
open World renaming cell?→Wj
open IntKind renaming i64→Y
open Go renaming World→V5,Value→V6,Calls→V7
open Go.RowKit
section
namespace Sp
theorem Ii{L:List (List UInt8)}{E:Ev}(l:kI true L 0=true){r:Nat × List Nat}(m:fe L 0 []=S r):∀(g:Nat) (s t:Ms),yZ L s->lG L E g s=S t->yZ L t/\(Wn L)<=t.at':=by
 intro g
 induction g with
 |zero=>intro s t _ h;cases h
 |succ g u =>
  intro s t e h;rw[lG] at h;split at h
  .rename_i j;injection h with h;subst h;exact⟨e,j⟩
  .rename_i j;split at h
   .cases h
   .rename_i y b;exact u _ _ (sI l m e (by omega) b) h
theorem II{L:List (List UInt8)}{E:Ev}(b:Good L){t:Ms}(h:lG L E 201 ⟨0,200,[],[]⟩=S t):∃v,t.T=[v]/\ev L E=S v:=by
 obtain⟨j,l⟩:=Ii b.fm b.one _ _ _ (NB L 200) h;have m:=Ja b.one j l;obtain⟨v,e⟩:=List.length_eq_one_iff.1 m;refine⟨v,e,?_⟩;unfold ev;rw[h];simp[e]
end Sp
def mZ(E:Sp.Ev):V6 := .agg #[Z Y E.value,Z Y E.jf,Z Y E.iH,Z Y E.step,Z Y E.id,Z Y E.deg,Z Y E.all,Z Y E.xB,Z Y E.weight]
def eX(b:V6)(E:Sp.Ev):Array V6 := #[b,Z Y 0,Z Y 200,Z Y E.value,Z Y E.jf,Z Y E.iH,Z Y E.step,Z Y E.id,Z Y E.deg,Z Y E.all,Z Y E.xB,Z Y E.weight,Z Y 0,Z Y 0,Z Y 0,Z Y 0,Z Y 0,Z Y 0,Z Y 0,Z Y 0,Z Y 0,Z Y 0,Z Y 0,Z Y 0,Z Y 0,Z Y 0,Z Y 0,Z Y 0,Z Y 0,J U 0 0,Wa Wg]
theorem jx.zG{w:V5}{M t:Nat}{b:V6}{E:Sp.Ev}(h:w.heap[M]?=S (D (eX b E) t)):jx w M b 0 200 E [] (J U 0 0):=by
 refine⟨by simp[Wj,h,eX],by simp[Wj,h,eX],by simp[Wj,h,eX],by simp[Wj,h,eX],by simp[Wj,h,eX],by simp[Wj,h,eX],by simp[Wj,h,eX],by simp[Wj,h,eX],by simp[Wj,h,eX],by simp[Wj,h,eX],by simp[Wj,h,eX],by simp[Wj,h,eX],λj e=>?_,λj e=>by simp at e,by simp[Wj,h,eX],by simp[Wj,h,eX],by simp[Wj,h,eX],λj=>by simp[World.frozen?,h],by simp⟩
 match j,e with
 |0,_=>exact⟨0,by simp[Wj,h,eX]⟩
 |1,_=>exact⟨0,by simp[Wj,h,eX]⟩
 |2,_=>exact⟨0,by simp[Wj,h,eX]⟩
 |3,_=>exact⟨0,by simp[Wj,h,eX]⟩
 |4,_=>exact⟨0,by simp[Wj,h,eX]⟩
 |5,_=>exact⟨0,by simp[Wj,h,eX]⟩
 |6,_=>exact⟨0,by simp[Wj,h,eX]⟩
 |7,_=>exact⟨0,by simp[Wj,h,eX]⟩
 |8,_=>exact⟨0,by simp[Wj,h,eX]⟩
 |9,_=>exact⟨0,by simp[Wj,h,eX]⟩
 |10,_=>exact⟨0,by simp[Wj,h,eX]⟩
 |11,_=>exact⟨0,by simp[Wj,h,eX]⟩
 |12,_=>exact⟨0,by simp[Wj,h,eX]⟩
 |13,_=>exact⟨0,by simp[Wj,h,eX]⟩
 |14,_=>exact⟨0,by simp[Wj,h,eX]⟩
 |15,_=>exact⟨0,by simp[Wj,h,eX]⟩
 |n+16,e=>exact absurd e (by omega)
structure oj (w:V5) (g:Nat) (L:List (List UInt8)):Prop where
 Dc:Sp.Good L
 rd:∃MS,Sp.fC L (Wn L)=S (MS,[])/\∀i,i<Wn L->w.cell? ⟨g,i*2+1,U⟩=S (Z Y ((MS.getD i 0:Nat):Int))
 lt:g<w.heap.size
 fn:∀i (hi:i<Wn L),∃F caps,w.cell? ⟨g,i*2,U⟩=S (.func (.func F) #[] caps)/\Fn w w.heap.size L[i] (.func (.func F) #[] caps)
theorem Fn.J6{w w':V5}{B M:Nat}{x:List UInt8}{e:V6}(h:Fn w B x e)(hb:Below B w w')(u:B<=M):Fn w' M x e:=by
 rcases h with ⟨b,n,j,l,m,r⟩|h
 .exact Or.inl ⟨b,n,by omega,l,(hb.block b j).trans m,r⟩
 .exact Or.inr h
theorem oj.below{w w':V5}{g:Nat}{L:List (List UInt8)}(h:oj w g L)(hb:V4 w w'):oj w' g L:=by
 obtain⟨e,j,l⟩:=h.rd;refine⟨h.Dc,⟨e,j,λi hi=>(hb.cell (p:=⟨g,i*2+1,U⟩) h.lt).trans (l i hi)⟩,TI h.lt hb.size,λi hi=>?_⟩;obtain⟨F,b,m,r⟩:=h.fn i hi;exact⟨F,b,(hb.cell (p:=⟨g,i*2,U⟩) h.lt).trans m,r.J6 hb hb.size⟩
theorem oj.Sw{w W:V5}{g:Nat}{L:List (List UInt8)}(h:oj w g L)(hb:V4 w W){M:Nat}(j:w.heap.size<=M):∃e,Oh W M g L e:=by
 obtain⟨e,l,m⟩:=h.rd;refine⟨e,h.Dc.fm,⟨_,h.Dc.one⟩,l,h.Dc.len,TI h.lt j,λi hi=>?_,λi hi=>(hb.cell (p:=⟨g,i*2+1,U⟩) h.lt).trans (m i hi)⟩;obtain⟨F,b,r,u⟩:=h.fn i hi;exact⟨F,b,(hb.cell (p:=⟨g,i*2,U⟩) h.lt).trans r,u.J6 hb j⟩
structure j6 (w:V5) (z f:Addr):Prop where
 cz:w.cell? ⟨1,0,U⟩=S (.iface 338 (V9 (S z)))
 cf:w.cell? ⟨2,0,U⟩=S (.iface 338 (V9 (S f)))
 ne:z≠f
 bz:∃c t,w.heap[z.block]?=S (D c t (0,0))
 bf:∃c t,w.heap[f.block]?=S (D c t (0,0))
theorem j6.lz{w:V5}{z f:Addr}(h:j6 w z f):1<w.heap.size:=Tu w _ h.cz
theorem j6.lf{w:V5}{z f:Addr}(h:j6 w z f):2<w.heap.size:=Tu w _ h.cf
theorem j6.below{w w':V5}{z f:Addr}(h:j6 w z f)(hb:V4 w w'):j6 w' z f:=by
 obtain⟨c,t,b⟩:=h.bz;obtain⟨j,l,e⟩:=h.bf;exact⟨(hb.cell (p:=⟨1,0,U⟩) h.lz).trans h.cz,(hb.cell (p:=⟨2,0,U⟩) h.lf).trans h.cf,h.ne,⟨c,t,(hb.block _ (Ts.1 b).1).trans b⟩,⟨j,l,(hb.block _ (Ts.1 e).1).trans e⟩⟩
def GH(z f:Addr)(e:Ending):Prop:=e=.panicked [{ v := .iface 338 (V9 (S z)),recovered:=false }]\/e=.panicked [{ v := .iface 338 (V9 (S f)),recovered:=false }]
def EH(o:Option Int)(z f:Addr)(w:V5)(e:Ending)(w':V5):Prop:=V4 w w'/\match o with
  |some v=>e=Wd (Z Y v)
  |none=>GH z f e
theorem wE(L:List (List UInt8))(E:Sp.Ev)(hE:Sp.nE E)(g cap:Nat)(z f:Addr)(w:V5)(hc:oj w g L)(he:j6 w z f):V7 prog 115 #[J (S ⟨g,0,U⟩) (Wn L) cap,mZ E] w (EH (Sp.ev L E) z f w):=by
 have HC:=cU hc;have HE:=cU he;have Q:=cU hE;clear hc he hE;generalize K:EH (Sp.ev L E) z f w=b;replace K:=cU K;unfold mZ;go_enter func115,ntmps115
 iterate 25 (first|go_values|go_skip|go_guarded|go_step|go_upon|(simp only[Int.not_lt,Int.not_le] at *;go_simp))
 refine wpList_store_row O 223 (.tmp 5) (.tmp 8) O (w.heap.size+1) (eX (J (S ⟨g,0,U⟩) (Wn L) cap) E) O O 223 (et (J U 0 0) 0 Wg) ?h1 (by kernel_rfl) O (by simp[eX,Value.oneCell']) ?h2
 case h1 =>
  rw[<-TK w (D #[Z Y E.value,Z Y E.jf,Z Y E.iH,Z Y E.step,Z Y E.id,Z Y E.deg,Z Y E.all,Z Y E.xB,Z Y E.weight] 165)];exact Tk _ _
 case h2 =>
 have m:V4 w (((w.alloc (D #[Z Y E.value,Z Y E.jf,Z Y E.iH,Z Y E.step,Z Y E.id,Z Y E.deg,Z Y E.all,Z Y E.xB,Z Y E.weight] 165)).alloc (D (et (J U 0 0) 0 Wg) 223)).setRow (w.heap.size+1) (eX (J (S ⟨g,0,U⟩) (Wn L) cap) E)):=below_setRow (((Th _ w).alloc V2 _).alloc (by simp) _) (by omega) _;have u:(((w.alloc (D #[Z Y E.value,Z Y E.jf,Z Y E.iH,Z Y E.step,Z Y E.id,Z Y E.deg,Z Y E.all,Z Y E.xB,Z Y E.weight] 165)).alloc (D (et (J U 0 0) 0 Wg) 223)).setRow (w.heap.size+1) (eX (J (S ⟨g,0,U⟩) (Wn L) cap) E)).heap[w.heap.size+1]?=S (D (eX (J (S ⟨g,0,U⟩) (Wn L) cap) E) 223 (0,0)):=by
  refine Uq _ _ (et (J U 0 0) 0 Wg) _ _ _ ?_;rw[<-TK w (D #[Z Y E.value,Z Y E.jf,Z Y E.iH,Z Y E.step,Z Y E.id,Z Y E.deg,Z Y E.all,Z Y E.xB,Z Y E.weight] 165)];exact Tk _ _
 generalize R:World.setRow _ _ _=W;replace m:V4 w W:=by rw[<-R];exact m
 replace u:W.heap[w.heap.size+1]?=S (D (eX (J (S ⟨g,0,U⟩) (Wn L) cap) E) 223 (0,0)):=by rw[<-R];exact u
 clear R;have y:w.heap.size+1<W.heap.size:=(Ts.1 u).1;have r:V7 prog 113 #[V9 (S ⟨w.heap.size+1,0,U⟩)] W (CR (Sp.lG L E 201 ⟨0,200,[],[]⟩) (w.heap.size+1) (J (S ⟨g,0,U⟩) (Wn L) cap) L E 338 (V9 (S z)) 338 (V9 (S f)) W):=by
  obtain⟨MS,T⟩:=(cT HC).Sw m (M:=w.heap.size+1) (by omega);have he:=cT HE;refine Kt L MS E (cT Q) (w.heap.size+1) g cap _ _ _ _ ⟨0,200,[],[]⟩ W T ⟨Sp.NB L 200,Sp.Q0 L 200,⟨λv P=>(by cases P),λq hq=>(by cases hq)⟩,⟨_,jx.zG u,TH _ _ _ _⟩,rfl,Th _ _,Te _⟩ (by have:=he.lz;omega) ((m.cell (p:=⟨1,0,U⟩) he.lz).trans he.cz) (by have:=he.lf;omega) ((m.cell (p:=⟨2,0,U⟩) he.lf).trans he.cf)
 go_wp2_with fail;refine r.mono ?_;clear r;cases F:Sp.lG L E 201 ⟨0,200,[],[]⟩ with
 |none =>
  have l:Sp.ev L E=U:=by unfold Sp.ev;rw[F];rfl
  rintro e A ⟨B,V⟩;have j:∀e,GH z f e->b e A:=λe he=>by
   rw[<-cT K,l];exact⟨m.trans (B.mono (by omega)),he⟩
  rcases V with rfl|rfl
  .have G:=cU (j _ (Or.inl O));clear B m u y j F l;go_wp2;exact⟨O,cT G⟩
  .have G:=cU (j _ (Or.inr O));clear B m u y j F l;go_wp2;exact⟨O,cT G⟩
 |some t =>
  obtain⟨v,P,l⟩:=Sp.II (cT HC).Dc F;rintro e A ⟨B,rfl,x,hd,_⟩;have j:∀C,V4 A C\/eD (w.heap.size+1) A C->b (Wd (Z Y v)) C:=λC h2=>by
   rw[<-cT K,l];have X:V4 w A:=m.trans (B.mono (by omega));rcases h2 with h2|h2
   .exact⟨X.trans (h2.mono X.size),O⟩
   .exact⟨X.trans (h2.below.mono (by omega)),O⟩
  rw[P] at hd;have G:=cU j;clear B m u y j F l P;go_wp2_with fail;refine(qV v _ _ _ E [] _ x A hd).mono ?_;rintro e C ⟨rfl,s,I⟩;have o:=cU (cT G C (Or.inr I));clear hd s I;go_wp2;exact cT o
end
section
variable {w:V5}{B:Nat}
theorem fB{u e size n:Nat}{v:V6}{y:List V6}(h:w.ownsRow u e size v n y)(z:B<=u): w.ownsRow B e size v n y:=by
 obtain⟨A,b⟩:=h;refine⟨A,?_⟩;rcases b with b|⟨g,j,l,C,m,F,r⟩
 .exact .inl b
 .exact .inr ⟨g,j,l,C,To z m,F,r⟩
structure sB (F:Nat) (k:List UInt8):Prop where
 enter:∀(args:Array V6) (w:V5),(callFunc F args).run prog w=.ok (.enter F args) w
 calls:∀(a b:Int) (w:V5),V7 prog F #[Z Y a,Z Y b] w λe w'=>e=Wd (Z Y (Sp.jq k a b))/\w'=w
theorem join_min:sB 243 [109,105,110]:=by
 refine⟨da func243 (by kernel_rfl) (by kernel_rfl),λa b w=>?_⟩;have h:Sp.jq [109,105,110] a b=min a b:=by unfold Sp.jq;simp only[Vs,reduceCtorEq,and_false,Ux];simp;omega
 rw[h];go_enter func243,ntmps243;go_wp2;go_ret;exact⟨O,O⟩
theorem join_max:sB 244 [109,97,120]:=by
 refine⟨da func244 (by kernel_rfl) (by kernel_rfl),λa b w=>?_⟩;have h:Sp.jq [109,97,120] a b=max a b:=by unfold Sp.jq;simp only[Vs,reduceCtorEq,and_false,Ux];simp;omega
 rw[h];go_enter func244,ntmps244;go_wp2;go_ret;exact⟨O,O⟩
theorem JI:sB 245 [115,117,109]:=by
 refine⟨da func245 (by kernel_rfl) (by kernel_rfl),λa b w=>?_⟩;have h:Sp.jq [115,117,109] a b=wrap64 (a+b):=by unfold Sp.jq;simp
 rw[h];go_enter func245,ntmps245;go_wp2;go_ret;exact⟨O,O⟩
theorem Mq:(k:Nat)->k<3->sB (PH[k]!) (Sp.fp[k]!)
 |0,_=>join_min
 |1,_=>join_max
 |2,_=>JI
 |n+3,h=>absurd h (by omega)
theorem MY:(k:Nat)->k<3->ow k=Sp.eT (Sp.fp[k]!)
 |0,_=>rfl
 |1,_=>rfl
 |2,_=>rfl
 |n+3,h=>absurd h (by omega)
def m8(w:V5)(B o:Nat)(k:List UInt8):Prop := ∃b F,w.cell? ⟨B,o,U⟩=S (H b)/\w.cell? ⟨B,o+1,U⟩=S (Z Y (Sp.eT k))/\w.cell? ⟨B,o+2,U⟩=S (.func (.func F) #[] #[])/\sB F k
structure jH (w:V5) (B:Nat) (P:Sp.Pg):Prop where
 lt:B<w.heap.size
 code:∀i,i<5->∃g cap,w.cell? ⟨B,i*4,U⟩=S (J (S ⟨g,0,U⟩) (P.code i).length cap)/\oj w g (P.code i)
 pq:m8 w B 21 P.pq
 al:m8 w B 25 P.al
theorem m8.below{w':V5}{o:Nat}{k:List UInt8}(h:m8 w B o k)(b:B<w.heap.size)(hb:V4 w w'): m8 w' B o k:=by
 obtain⟨e,F,j,l,m,r⟩:=h;exact⟨e,F,(hb.cell (p:=⟨B,o,U⟩) b).trans j,(hb.cell (p:=⟨B,o+1,U⟩) b).trans l,(hb.cell (p:=⟨B,o+2,U⟩) b).trans m,r⟩
theorem jH.below{w':V5}{P:Sp.Pg}(h:jH w B P)(hb:V4 w w'): jH w' B P:=by
 refine⟨TI h.lt hb.size,λi hi=>?_,h.pq.below h.lt hb,h.al.below h.lt hb⟩;obtain⟨g,b,e,j⟩:=h.code i hi;exact⟨g,b,(hb.cell (p:=⟨B,i*4,U⟩) h.lt).trans e,j.below hb⟩
def oP(k:List UInt8)(w:V5)(e:Ending)(w':V5):Prop := ∃b F,e=Wd (.agg #[H b,Z Y (Sp.eT k),.func (.func F) #[] #[]])/\sB F k/\V4 w w'
theorem Jp(B:Nat)(P:Sp.Pg)(w:V5)(h:jH w B P):V7 prog 76 #[V9 (S ⟨B,0,U⟩)] w (oP P.pq w):=by
 obtain⟨b,F,u,l,y,e⟩:=h.pq;have m:=h.lt;have r:=cU e;obtain⟨q,j⟩:∃q,Hid (Sp.eT P.pq=q):=⟨_,rfl⟩
 rw[cT j] at l;clear e h;have z:V4 w (w.alloc (D #[H ⟨#[]⟩,Z Y 0,.nilFunc] 152)):=V3.alloc V2 _;go_enter func76,ntmps76;go_wp2;refine Tj (v := .agg #[H b,Z Y q,.func (.func F) #[] #[]]) (by simp[results,results76,go_sem]) O ⟨b,F,by rw[cT j],cT r,?_⟩;exact V3.alloc V2 _
theorem Ez(B:Nat)(P:Sp.Pg)(w:V5)(h:jH w B P):V7 prog 75 #[V9 (S ⟨B,0,U⟩)] w (oP P.al w):=by
 obtain⟨b,F,u,l,y,e⟩:=h.al;have m:=h.lt;have r:=cU e;obtain⟨q,j⟩:∃q,Hid (Sp.eT P.al=q):=⟨_,rfl⟩
 rw[cT j] at l;clear e h;have z:V4 w (w.alloc (D #[H ⟨#[]⟩,Z Y 0,.nilFunc] 152)):=V3.alloc V2 _;go_enter func75,ntmps75;go_wp2;refine Tj (v := .agg #[H b,Z Y q,.func (.func F) #[] #[]]) (by simp[results,results75,go_sem]) O ⟨b,F,by rw[cT j],cT r,?_⟩;exact V3.alloc V2 _
end
section
def mo(E:Sp.Ev):Array V6 := #[Z Y E.value,Z Y E.jf,Z Y E.iH,Z Y E.step,Z Y E.id,Z Y E.deg,Z Y E.all,Z Y E.xB,Z Y E.weight]
structure ey (w:V5) (S:Nat) (E:Sp.Ev):Prop where
 c0:w.cell? ⟨S,0,U⟩=some (Z Y E.value)
 c1:w.cell? ⟨S,1,U⟩=some (Z Y E.jf)
 c2:w.cell? ⟨S,2,U⟩=some (Z Y E.iH)
 c3:w.cell? ⟨S,3,U⟩=some (Z Y E.step)
 c4:w.cell? ⟨S,4,U⟩=some (Z Y E.id)
 c5:w.cell? ⟨S,5,U⟩=some (Z Y E.deg)
 c6:w.cell? ⟨S,6,U⟩=some (Z Y E.all)
 c7:w.cell? ⟨S,7,U⟩=some (Z Y E.xB)
 c8:w.cell? ⟨S,8,U⟩=some (Z Y E.weight)
 fz:∀j,w.frozen? ⟨S,j,U⟩=Wg
variable {w:V5}
theorem ey.lt{b:Nat}{E:Sp.Ev}(h:ey w b E): b<w.heap.size:=Tu w _ h.c0
theorem ey.far{w':V5}{b:Nat}{E:Sp.Ev}(h:ey w b E)(e:∀j,w'.cell? ⟨b,j,U⟩=w.cell? ⟨b,j,U⟩)(l:∀j,w'.frozen? ⟨b,j,U⟩=w.frozen? ⟨b,j,U⟩): ey w' b E:=⟨(e _).trans h.c0,(e _).trans h.c1,(e _).trans h.c2,(e _).trans h.c3,(e _).trans h.c4,(e _).trans h.c5,(e _).trans h.c6,(e _).trans h.c7,(e _).trans h.c8,λj=>(l j).trans (h.fz j)⟩
theorem ey.below{w':V5}{b:Nat}{E:Sp.Ev}(h:ey w b E)(hb:V4 w w'): ey w' b E:=h.far (λj=>hb.cell (p:=⟨b,j,U⟩) h.lt) (λj=>hb.frozen (p:=⟨b,j,U⟩) h.lt)
theorem ey.new{b t:Nat}{E:Sp.Ev}(h:w.heap[b]?=S (D (mo E) t)): ey w b E:=⟨by simp[Wj,h,mo],by simp[Wj,h,mo],by simp[Wj,h,mo],by simp[Wj,h,mo],by simp[Wj,h,mo],by simp[Wj,h,mo],by simp[Wj,h,mo],by simp[Wj,h,mo],by simp[Wj,h,mo],λj=>by simp[World.frozen?,h]⟩
theorem ey.setW{b:Nat}{E:Sp.Ev}(h:ey w b E)(v:Int): ey (w.setCell ⟨b,8,U⟩ (Z Y v)) b (E.setW v):=by
 have e:∀j,j≠8->(w.setCell ⟨b,8,U⟩ (Z Y v)).cell? ⟨b,j,U⟩=w.cell? ⟨b,j,U⟩:=λj l=>cW (by omega)
 exact⟨(e _ (by omega)).trans h.c0,(e _ (by omega)).trans h.c1,(e _ (by omega)).trans h.c2,(e _ (by omega)).trans h.c3,(e _ (by omega)).trans h.c4,(e _ (by omega)).trans h.c5,(e _ (by omega)).trans h.c6,(e _ (by omega)).trans h.c7,T0 _ _ _ h.c8,λj=>(TX _ _ _ _).trans (h.fz j)⟩
def ve(o:Option (List (Nat × Int)))(z f:Addr)(w:V5)(e:Ending)(w':V5):Prop:=V4 w w'/\match o with
  |some l=>∃v,e=Wd v/\w'.ownsRow w.heap.size 2 1 v (Wn l) (l.map λm=>Z Y m.2)
  |none=>GH z f e
structure JM (L:List (List UInt8)) (E:Sp.Ev) (Es:List Sp.Ed) (w wr:V5) (k:Nat) (l:List (Nat × Int)) (v:V6):Prop where
 ms:Sp.msgs L E (Es.take k)=S l
 si:∃q,ey wr w.heap.size (E.setW q)
 row:wr.ownsRow (w.heap.size+1) 2 1 v (Wn l) (l.map λm=>Z Y m.2)
 lJ:V4 w wr
theorem Gg{L:List (List UInt8)}{E:Sp.Ev}{Es:List Sp.Ed}{k:Nat}(b:k<Es.length){l:List (Nat × Int)}(h:Sp.msgs L E (Es.take k)=S l):Sp.msgs L E (Es.take (k+1))=match Sp.ev L (E.setW Es[k].n) with
  |none=>U
  |some m=>S (l++[(Es[k].cS,m)]):=by
 rw[Uw b,Sp.ts,h];simp only[Sp.msgs];cases Sp.ev L (E.setW Es[k].n) <;> rfl
theorem Gd{L:List (List UInt8)}{E:Sp.Ev}{Es:List Sp.Ed}{k:Nat}(h:Sp.msgs L E (Es.take k)=U):Sp.msgs L E Es=U:=by
 rw[<-Un k Es,Sp.ts,h]
theorem eQ{z f:Addr}{e:Ending}(h:GH z f e):∃b,e=.panicked b:=by
 rcases h with rfl|rfl <;> exact⟨_,O⟩
theorem zH(B:Nat)(P:Sp.Pg)(E:Sp.Ev)(Es:List Sp.Ed)(pe:Option Addr)(cap:Nat)(z f:Addr)(w:V5)(hp:jH w B P)(he:j6 w z f)(hE:Sp.nE E)(ah:gh w pe Es)(hn:∀x∈Es,Sp.i64 x.n)(hl:Es.length<=1000):V7 prog 116 #[V9 (S ⟨B,0,U⟩),mZ E,J pe Es.length cap] w (ve (Sp.msgs (P.code 2) E Es) z f w):=by
 obtain⟨t2,ay,az,aA,aB⟩:=TN info_i64;obtain⟨g,o,aC,ai⟩:=hp.code 2 (by omega);have aD:=hp.lt;have HW:=cU (And.intro ai (And.intro he (And.intro hE hn)));have aE:=cU ah;generalize hO:ve (Sp.msgs (P.code 2) E Es) z f w=b;replace hO:=cU hO;generalize hL:P.code 2=L at *;replace hL:=cU hL;clear hp ai he hE ah hn;have aj:Hid (JM L E Es w (w.alloc (D (mo E) 165)) 0 [] (J U 0 0)):=⟨O,⟨E.weight,ey.new (E:=E) (Tk w _)⟩,TH _ _ _ _,V3.alloc V2 _⟩
 unfold mZ;go_enter func116,ntmps116;go_wp2_with fail
 go_loopw [7,12] (λvv i wr=>∃(k:Nat) (l:List (Nat × Int)) (v:V6),k<=Es.length/\i=Z Y k/\vv=v/\Hid (JM L E Es w wr k l v)) (λ_ i _=>Es.length-(intOf i).toNat)
 case atStart=>exact⟨0,[],_,Tp _,rfl,rfl,aj⟩
 case round =>
  clear aj;obtain⟨k,l,v,hk,rfl,ak,HI⟩:=hrel;obtain rfl:=ak.symm;clear ak;by_cases ad:k<Es.length
  .have an:(k:Int)<(Es.length:Int):=by omega
   have g0:(0:Int)<=(k:Int):=TS _;have T:=(cT HI).lJ;obtain⟨ge,rfl,ae,d0,d1,d2⟩:=(cT aE) k ad;have c0:wr.cell? ⟨ge,k*3,U⟩=S (Z Y (Es[k].dp:Int)):=(T.cell (p:=⟨ge,k*3,U⟩) ae).trans d0;have c1:wr.cell? ⟨ge,k*3+1,U⟩=S (Z Y (Es[k].cS:Int)):=(T.cell (p:=⟨ge,k*3+1,U⟩) ae).trans d1;have c2:wr.cell? ⟨ge,k*3+2,U⟩=S (Z Y Es[k].n):=(T.cell (p:=⟨ge,k*3+2,U⟩) ae).trans d2;obtain⟨q,I⟩:=(cT HI).si;have s8:=I.c8;have sf:=I.fz 8;have hS:=I.lt;have ao:Wn l=k:=by have:=Sp.Bz (cT HI).ms;rw[Uz] at this;omega
   obtain⟨x,hx⟩:∃x,Es[k]=x:=⟨_,rfl⟩
   rw[hx] at c0 c1 c2;have HX:=cU hx;clear d0 d1 d2 hx;have aq:Hid (∀W,W=(wr.setCell ⟨w.heap.size,8,U⟩ (Z Y x.n)).alloc (D #[Z Y (x.dp:Int),Z Y (x.cS:Int),Z Y x.n] 162)->ey W w.heap.size (E.setW x.n)/\W.ownsRow (w.heap.size+1) 2 1 v k (l.map λm=>Z Y m.2)/\V4 w W):=by
    show ∀W,_
    rintro W rfl;have hA:Below (wr.setCell ⟨w.heap.size,8,U⟩ (Z Y x.n)).heap.size (wr.setCell ⟨w.heap.size,8,U⟩ (Z Y x.n)) ((wr.setCell ⟨w.heap.size,8,U⟩ (Z Y x.n)).alloc (D #[Z Y (x.dp:Int),Z Y (x.cS:Int),Z Y x.n] 162)):=V3.alloc V2 _;have r:V4 w (wr.setCell ⟨w.heap.size,8,U⟩ (Z Y x.n)):=T.setCell (p:=⟨w.heap.size,8,U⟩) V2 _;refine⟨(I.setW x.n).below hA,?_,r.trans (hA.mono r.size)⟩;have:=(cT HI).row;rw[ao] at this;exact de (((eD.refl _ _).set _ _).own this) hA
   go_upto_region 6 with fail;generalize hW:World.alloc _ _=W;obtain⟨G,hr,u⟩:=cT aq W hW.symm;clear hW aq I c0 c1 c2 s8 sf;have y0:=G.c0;have y1:=G.c1;have y2:=G.c2;have y3:=G.c3;have y4:=G.c4;have y5:=G.c5;have y6:=G.c6;have y7:=G.c7;have y8:=G.c8;have aM:=(u.cell (p:=⟨B,8,U⟩) aD).trans aC;have aN:=G.lt;have K:=cT HW;have aF:Sp.i64 x.n:=by rw[<-cT HX];exact K.2.2.2 _ (Uc ad)
   have y:V4 W W.drew:=V3.drew;have aa:oj W.drew g L:=(K.1.below (u)).below y;have ab:j6 W.drew z f:=(K.2.1.below u).below y;have HA:Hid (V7 prog 115 #[J (S ⟨g,0,U⟩) (Wn L) o,mZ (E.setW x.n)] W.drew (EH (Sp.ev L (E.setW x.n)) z f W.drew)):=wE L (E.setW x.n) (K.2.2.1.setW aF) g o z f W.drew aa ab;have aG:Hid (∀(args:Array V6) (w:V5),(callFunc 115 args).run prog w=.ok (.enter 115 args) w):=da func115 (by kernel_rfl) (by kernel_rfl);clear aa ab K;have C:=Gg ad (cT HI).ms;rw[cT HX] at C;cases V:Sp.ev L (E.setW x.n) with
   |none =>
    rw[V] at HA C;have HF:Hid (∀e M,Below W.heap.size W.drew M->GH z f e->b e M):=by
     show ∀e M,_
     intro e M af X;rw[<-cT hO,Gd C];exact⟨u.trans ((y.trans af).mono u.size),X⟩
    clear C V G hr u y
    go_region_with (refine(cT HA).mono ?_;rintro e Q ⟨r,X⟩;obtain⟨ch,rfl⟩:=eQ X;refine jB prog Q ⟨O,cT HF _ Q (r.mono V2) X⟩ ?_)
    all_goals trivial
   |some m =>
    rw[V] at HA C;have HN:Hid (∀M v',V4 w M->ey M w.heap.size (E.setW x.n)->M.ownsRow (w.heap.size+1) 2 1 v' (k+1) ((l.map λm=>Z Y m.2)++[Z Y m])->JM L E Es w M (k+1) (l++[(x.cS,m)]) v'):=by
     show ∀M v',_
     intro M v' af aH aI;refine⟨C,⟨_,aH⟩,?_,af⟩;rw[TT,ao];simpa using aI
    clear C V
    go_region_law (first
    |(refine du (by rfl) _ _ _ (by rfl) 115 (by rfl) _ (by rfl) (cT aG) (cT HA) ?_;rintro e Q ⟨r,rfl⟩;dsimp only)
     | (refine step_append_lies _ (by rfl) _ _ _ (by rfl) (w.heap.size+1) 2 t2 _ 1 8 underlying30 ay az aA aB rfl (by omega) v _ _ (by rfl) ((de hr (y.trans (r.mono V2))).alloc _) ⟨Q.heap.size,0,U⟩ 1 1 [Z Y m] (by rfl) (by rfl) (Vv (cs := #[Z Y m]) (t:=2) (fr:=(0,0)) (Tk Q _)) (by simp[Value.oneCell']) (by omega) (by unfold maxLen;omega) (by omega) (by have:=r.size;simp at this ⊢;omega) (Q.heap.size+1) (by simp) ?_;intro gg cp w2 R A aJ ar))
    all_goals
     have F:V4 w Q:=u.trans ((y.trans (r.mono V2)).mono u.size);have s:ey Q w.heap.size (E.setW x.n):=G.below (y.trans (r.mono V2));have aK:=de hr (y.trans (r.mono V2));have ag:S w.heap.size≠v.ownBlock:=λe=>by have:=(hr.lt _ e.symm).1;omega
     have au:V4 Q (Q.alloc (D #[Z Y m] 2)):=V3.alloc V2 _;have av:ey w2 w.heap.size (E.setW x.n):=(s.below au).far (λj=>A.cell_far ⟨w.heap.size,j,U⟩ (by have:=s.lt;simp;omega) ag) (λj=>A.frozen_far ⟨w.heap.size,j,U⟩ (by have:=s.lt;simp;omega) ag);have aw:V4 w w2:=(F.alloc F.size _).grown A (by have:=F.size;simp;omega) (λj hj=>by have:=(hr.lt j hj).1;omega);have aL:=cU (cT HN w2 _ aw av R);clear F s aK ag au av aw R A aJ ar r G hr u y;go_wp2;go_roundw
     case rel=>exact⟨k+1,_,_,by omega,by go_num,rfl,aL⟩
     case measure=>simp[intOf];omega
  .have an:¬(k:Int)<(Es.length:Int):=by omega
   obtain rfl:k=Es.length:=by omega
   have HF:Hid (b (Wd v) wr):=by
    show b _ _
    have hI:=cT HI;have ax:=hI.ms;rw[Ut] at ax;rw[<-cT hO,ax];exact⟨hI.lJ,v,O,fB hI.row (Uh _)⟩
   go_wp2;exact cT HF
end
theorem Cg:∃i j,prog.info? 338=S i/\i.comparable=true/\prog.info? 363=S j/\j.size≠0:=by
 refine⟨_,_,O,by kernel_rfl,O,?_⟩;exact Vm (by kernel_rfl)
theorem B4(a:Addr)(w:V5):(binOp .eql 20 (.iface 338 (V9 (S a))) (.iface 338 (V9 (S a)))).run prog w=.ok (Wa true) w:=by
 obtain⟨i,j,b,e,l,m⟩:=Cg;exact run_eql_iface_ptr_same w a underlying20 underlying338 b e l
theorem FU{z f:Addr}{w:V5}(h:j6 w z f):(binOp .eql 20 (.iface 338 (V9 (S f))) (.iface 338 (V9 (S z)))).run prog w=.ok (Wa Wg) w:=by
 obtain⟨i,j,b,l,m,r⟩:=Cg;obtain⟨c,t,u⟩:=h.bz;obtain⟨A,B,y⟩:=h.bf;exact run_eql_iface_ptr_other w underlying20 underlying338 b l m r (λe=>h.ne e.symm) y u
theorem EY(b:TypeId)(v:V6)(w:V5):(binOp .eql 20 (.iface b v) .nilIface).run prog w=.ok (Wa Wg) w:=by
 have h:∀d:Nat,(Op.equalIn (d+1) 20 (.iface b v) .nilIface).run prog w=.ok Wg w:=λd=>by simp[Op.equalIn,run_underlying underlying20]
 simp only[binOp];simp[Op.equal,Op.maxDepth,h 9999]
theorem AE(p q:Addr)(w:V5):CallsD prog 114 #[V9 (S p),V9 (S q)] .returning w λe b j=>e=Wd (Wb #[])/\b=.returning/\j=w:=by
 refine callsD_of_wpS func114 O λl m hu=>?_
 apply wpS_seq;apply wpS_region;simp[wpOpsS,go_sem,recoverD,hu,ntmps114,Exit.thenS];refine wpS_of_wp ?_;go_wp2;cases l
 simp_all [bodyPostS,results,results114]
def oV(w:V5)(T K:Nat):V5:=((((w.setCell ⟨T,0,U⟩ (Z Y 0)).setCell ⟨T,1,U⟩ (J U 0 0)).setCell ⟨T,2,U⟩ (Wa Wg)).setCell ⟨T,3,U⟩ (Z Y 0)).setCell ⟨K,0,U⟩ (Wa Wg)
structure eO (w:V5) (T K:Nat) (a:Int) (b:V6) (c:Bool) (d:Int) (k:Bool):Prop where
 c0:w.cell? ⟨T,0,U⟩=S (Z Y a)
 c1:w.cell? ⟨T,1,U⟩=S b
 c2:w.cell? ⟨T,2,U⟩=S (Wa c)
 c3:w.cell? ⟨T,3,U⟩=S (Z Y d)
 ck:w.cell? ⟨K,0,U⟩=S (Wa k)
 fz:∀j,w.frozen? ⟨T,j,U⟩=Wg
 fk:w.frozen? ⟨K,0,U⟩=Wg
 ne:T≠K
theorem BS(T K:Nat)(z f:Addr)(a d:Int)(b:V6)(c k:Bool)(w:V5)(h:eO w T K a b c d k)(he:j6 w z f):CallsD prog 114 #[V9 (S ⟨T,0,U⟩),V9 (S ⟨K,0,U⟩)] (.panicking ({ v := .iface 338 (V9 (S z)),recovered:=false }::[])) w λe l m =>
   e=Wd (Wb #[])/\l=.panicking ({ v := .iface 338 (V9 (S z)),recovered:=true }::[])/\m=oV w T K:=by
 have u:=he.cz;have y:=B4 z w;have A:=EY 338 (V9 (S z)) w;obtain⟨B,C,F,G,I,j,L,M⟩:=h;have P:=j 0;have Q:=j 1;have R:=j 2;have V:=j 3;clear he;refine callsD_of_wpS func114 O λr W hu=>?_
 apply wpS_seq;apply wpS_region;simp[wpOpsS,go_sem,recoverD,hu,ntmps114,Exit.thenS];refine wpS_of_wp ?_
 show Code.wp _ _ _ { tmps := #[V9 (S ⟨T,0,U⟩),V9 (S ⟨K,0,U⟩),.iface 338 (V9 (S z)),.iface 338 (V9 (S z)),undef,undef,undef,undef,undef,undef,undef,undef,undef,undef],defers:=[] } w
 go_wp2;cases r;refine⟨O,_,?_,Wb #[],by simp[results,results114,go_sem],O,O,O⟩
 simp_all
theorem Bs(T K:Nat)(z f:Addr)(a d:Int)(b:V6)(c k:Bool)(w:V5)(h:eO w T K a b c d k)(he:j6 w z f):CallsD prog 114 #[V9 (S ⟨T,0,U⟩),V9 (S ⟨K,0,U⟩)] (.panicking ({ v := .iface 338 (V9 (S f)),recovered:=false }::[])) w λe l m =>
   e=Wd (Wb #[])/\l=.panicking ({ v := .iface 338 (V9 (S f)),recovered:=true }::[])/\m=oV w T K:=by
 have u:=he.cz;have y:=he.cf;have A:=B4 f w;have B:=EY 338 (V9 (S f)) w;have C:=FU he;obtain⟨F,G,I,L,M,j,P,Q⟩:=h;have R:=j 0;have V:=j 1;have W:=j 2;have X:=j 3;clear he;refine callsD_of_wpS func114 O λr q hu=>?_
 apply wpS_seq;apply wpS_region;simp[wpOpsS,go_sem,recoverD,hu,ntmps114,Exit.thenS];refine wpS_of_wp ?_
 show Code.wp _ _ _ { tmps := #[V9 (S ⟨T,0,U⟩),V9 (S ⟨K,0,U⟩),.iface 338 (V9 (S f)),.iface 338 (V9 (S f)),undef,undef,undef,undef,undef,undef,undef,undef,undef,undef],defers:=[] } w
 go_wp2;cases r;refine⟨O,_,?_,Wb #[],by simp[results,results114,go_sem],O,O,O⟩
 simp_all
end Go.Proofs.YtgkkdpegcieakaaGreatDoor
