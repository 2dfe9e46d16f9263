import Derived.Test.YtgkkdpegcieakaaGreatDoorCz41
import Derived.Test.YtgkkdpegcieakaaGreatDoorRows
import Derived.Test.YtgkkdpegcieakaaGreatDoorCz42P
set_option linter.unusedVariables false
set_option linter.unusedSimpArgs false
set_option maxRecDepth 100000
set_option maxHeartbeats 16000000
namespace Go.Proofs.YtgkkdpegcieakaaGreatDoor
open Go.Proofs.Tryz
open Value renaming int→Z
open IntKind renaming i64→Y
open Go renaming World→TJ,Value→TK,Calls→TL
namespace Hl
open Go.RowKit
theorem xC(o s i u y z:Int)(p F:Option Addr)(k H:Nat)(U V:List Int)(w:TJ)(h:fF w Y p U)(R:fF w Y F V)(S:U.length<=100000000):TL prog 13 #[.agg #[Z .u8 o,Z Y s,Z Y i,.slice p U.length k],.agg #[Z .u8 u,Z Y y,Z Y z,.slice F V.length H]] w λe T=>(∃b,e=.returned (.bool b)/\(U=V->o=u->s=y->i=z->b=true))/\TI w T:=by
 have M:=ee w (.cells #[Z .u8 o,Z Y s,Z Y i,.slice p U.length k] 32);have m:TI w ((w.alloc (.cells #[Z .u8 o,Z Y s,Z Y i,.slice p U.length k] 32)).alloc (.cells #[Z .u8 u,Z Y y,Z Y z,.slice F V.length H] 32)):=(TH.alloc TG _).alloc (by rw[M];omega) _;have r:=ct (w.alloc (.cells #[Z .u8 o,Z Y s,Z Y i,.slice p U.length k] 32)) (.cells #[Z .u8 u,Z Y y,Z Y z,.slice F V.length H] 32);rw[M] at r;have A:((w.alloc (.cells #[Z .u8 o,Z Y s,Z Y i,.slice p U.length k] 32)).alloc (.cells #[Z .u8 u,Z Y y,Z Y z,.slice F V.length H] 32)).heap[w.heap.size]?=some (.cells #[Z .u8 o,Z Y s,Z Y i,.slice p U.length k] 32 (0,0)):=by
  rw[cN _ _ _ (by rw[M];omega)];exact ct w _
 have C:=cP (λW (hb:TI w W)=>zK p F k H U V W (h.below hb) (R.below hb) S);obtain⟨n,X⟩:∃n,Hid (U.length=n):=⟨_,rfl⟩
 obtain⟨n',N⟩:∃n,Hid (V.length=n):=⟨_,rfl⟩
 rw[cO X,cO N] at C A r m ⊢;clear h R M;go_enter func13,ntmps13;go_wp2_with fail;generalize q:World.alloc (World.alloc _ _) _=t at *;have O:=(cB.1 A).1;have P:=(cB.1 r).1;refine(cO C t m).mono ?_;rintro e D ⟨⟨b,rfl,I⟩,B⟩;have j:=(B.block _ O).trans A;have l:=(B.block _ P).trans r;have J:Hid (TI w D):=m.trans (B.mono m.size);have x0:D.cell? ⟨w.heap.size,0,none⟩=some (Z .u8 o):=by simp[World.cell?,j]
 have x1:D.cell? ⟨w.heap.size,1,none⟩=some (Z Y s):=by simp[World.cell?,j]
 have x2:D.cell? ⟨w.heap.size,2,none⟩=some (Z Y i):=by simp[World.cell?,j]
 have y0:D.cell? ⟨w.heap.size+1,0,none⟩=some (Z .u8 u):=by simp[World.cell?,l]
 have y1:D.cell? ⟨w.heap.size+1,1,none⟩=some (Z Y y):=by simp[World.cell?,l]
 have y2:D.cell? ⟨w.heap.size+1,2,none⟩=some (Z Y z):=by simp[World.cell?,l]
 have Q:=cP I;clear q A r m B C j l I;cases b with
 |false =>
  go_wp2;go_ret;exact⟨⟨false,rfl,λe _ _ _=>cO Q e⟩,cO J⟩
 |true =>
  by_cases E:o=u
  .have g:(o == u)=true:=Bs.2 E;by_cases G:s=y
   .have e2:(s == y)=true:=Bs.2 G;by_cases K:i=z
    .have e3:(i == z)=true:=Bs.2 K;clear E G K;go_wp2;go_ret;exact⟨⟨true,rfl,λ_ _ _ _=>rfl⟩,cO J⟩
    .have e3:(i == z)=false:=cC.2 K;have L:=cP K;clear E G K;go_wp2;go_ret;exact⟨⟨false,rfl,λ_ _ _ e=>absurd e (cO L)⟩,cO J⟩
   .have e2:(s == y)=false:=cC.2 G;have L:=cP G;clear E G;go_wp2;go_ret;exact⟨⟨false,rfl,λ_ _ e _=>absurd e (cO L)⟩,cO J⟩
  .have g:(o == u)=false:=cC.2 E;have L:=cP E;clear E;go_wp2;go_ret;exact⟨⟨false,rfl,λ_ e _ _=>absurd e (cO L)⟩,cO J⟩
theorem BE(o s i:Int)(p:Option Addr)(n k:Nat)(w:TJ):TL prog 14 #[.agg #[Z .u8 o,Z Y s,Z Y i,.slice p n k]] w λe A=>(∃b,e=.returned (.bool b)/\(o=0->s=0->i=0->n=0->b=true))/\TI w A:=by
 have j:TI w (w.alloc (.cells #[Z .u8 o,Z Y s,Z Y i,.slice p n k] 32)):=TH.alloc TG _;have y:=cP j;by_cases l:o=0
 .have B:(o == 0)=true:=Bs.2 l;by_cases m:s=0
  .have C:(s == 0)=true:=Bs.2 m;by_cases u:i=0
   .have D:(i == 0)=true:=Bs.2 u;by_cases z:n=0
    .have E:(((n:Nat):Int) == 0)=true:=Bs.2 (by omega);clear l m u z j;go_enter func14,ntmps14;go_wp2;go_ret;exact⟨⟨true,rfl,λ_ _ _ _=>rfl⟩,cO y⟩
    .have E:(((n:Nat):Int) == 0)=false:=cC.2 (by omega);have r:=cP z;clear l m u z j;go_enter func14,ntmps14;go_wp2;go_ret;exact⟨⟨false,rfl,λ_ _ _ e=>absurd e (cO r)⟩,cO y⟩
   .have D:(i == 0)=false:=cC.2 u;have r:=cP u;clear l m u j;go_enter func14,ntmps14;go_wp2;go_ret;exact⟨⟨false,rfl,λ_ _ e _=>absurd e (cO r)⟩,cO y⟩
  .have C:(s == 0)=false:=cC.2 m;have r:=cP m;clear l m j;go_enter func14,ntmps14;go_wp2;go_ret;exact⟨⟨false,rfl,λ_ e _ _=>absurd e (cO r)⟩,cO y⟩
 .have B:(o == 0)=false:=cC.2 l;have r:=cP l;clear l j;go_enter func14,ntmps14;go_wp2;go_ret;exact⟨⟨false,rfl,λe _ _ _=>absurd e (cO r)⟩,cO y⟩
theorem Hi(de sv every:Nat)(w:TJ)(h1:1<=every)(h2:every<=50)(A:de<=4294967295)(F:sv<=1000000):TL prog 15 #[.agg #[Z Y (de:Int),Z Y (sv:Int)],Z Y (every:Int)] w λe B=>e=.returned (Z Y (fH de sv every:Nat))/\TI w B:=by
 by_cases y:sv=0
 .subst y;have l:Hid (TI w (w.alloc (.cells #[Z Y (de:Int),Z Y 0] 43))):=TH.alloc TG _;have r:Hid (fH de 0 every=de):=by show _=_;unfold fH;rw[cg rfl]
  show TL prog 15 #[.agg #[Z Y (de:Int),Z Y 0],Z Y (every:Int)] w _
  go_enter func15,ntmps15;go_wp2;go_ret;exact⟨by rw[cO r];rfl,cO l⟩
 .have G:((sv:Int) == 0)=false:=cC.2 (by omega);have u:TI w (w.alloc (.cells #[Z Y (de:Int),Z Y (sv:Int)] 43)):=TH.alloc TG _;have j:=ct w (.cells #[Z Y (de:Int),Z Y (sv:Int)] 43);have r:Hid (fH de sv every=(de/every+sv)*every):=by show _=_;unfold fH;rw[cd y]
  have hd:(every:Int)≠0:=by omega
  have H:(de:Int).tdiv (every:Int)=((de/every:Nat):Int):=by rw[Int.tdiv_eq_ediv_of_nonneg (by omega)];rfl
  have C:de/every<=4294967295:=cx (Nat.div_le_self _ _) A;have I:(de/every+sv)*every<=4295967295*50:=Nat.mul_le_mul (by omega) h2;generalize de/every=q at *;have hmul:((q+sv:Nat):Int)*(every:Int)=(((q+sv)*every:Nat):Int):=by rw[Int.natCast_mul]
  generalize (q+sv)*every=m at *;have J:IntKind.i64.wrap (q:Int)=(q:Int):=by rw[fp];omega
  have K:IntKind.i64.wrap ((q:Int)+(sv:Int))=((q+sv:Nat):Int):=by rw[fp];omega
  have w3:IntKind.i64.wrap (m:Int)=(m:Int):=by rw[fp];omega
  generalize D:w.alloc (.cells #[Z Y (de:Int),Z Y (sv:Int)] 43)=z at *;have L:z.cell? ⟨w.heap.size,0,none⟩=some (Z Y (de:Int)):=by simp[World.cell?,j]
  have M:z.cell? ⟨w.heap.size,1,none⟩=some (Z Y (sv:Int)):=by simp[World.cell?,j]
  have l:=cP u;go_enter func15,ntmps15;go_wp2_with fail
  go_quiet (fail)
  go_wp2;go_ret;have E:wrap64 (m:Int)=(m:Int):=by first|exact w3|(unfold wrap64;omega)
  have b:((q:Int)+(sv:Int))*(every:Int)=(m:Int):=by rw[<-hmul,Int.natCast_add]
  refine⟨?_,(cO l).trans ((below_drewN _ _).mono (cO l).size)⟩;rw[cO r]
  show Ending.returned (Z Y (wrap64 (((q:Int)+(sv:Int))*(every:Int))))=_
  rw[b,E]
end Hl
namespace Hl
open Go.RowKit
open Rd (Rk)
open Dk (Kept du)
open Pk (pP gd jo fy Sm lB ot cS cZ)
open Ru (qF j5 qG nA B9 gh nP jd)
structure Env (w:TJ) (z f:Addr):Prop where
 Oo:Lib.Utf8Tabs 3 4 w
 comp:l8 w
 B6:kj w z f
 pow:gh w
variable {z f:Addr}{w0 w:TJ}
theorem Env.base(h:Env w0 z f)(hb:TI w0 w): Env w z f:=⟨eD h.Oo hb,h.comp.below hb,h.B6.below hb,h.pow.below hb⟩
theorem Env.lt(h:Env w z f): ∀k,(k=1\/k=2\/k=z.block\/k=f.block\/k=6)->k<w.heap.size:=by
 rintro k (rfl|rfl|rfl|rfl|rfl)
 .exact h.B6.lz
 .exact h.B6.lf
 .obtain⟨c,t,b⟩:=h.B6.bz;exact cS b
 .obtain⟨c,t,b⟩:=h.B6.bf;exact cS b
 .exact h.pow.lt
variable {R' R:Rk}{D:Nat}{O:Nat->Prop}
theorem DR{E e:Nat}{Q:Rk}(h:jo w D E Q R O): jo w D e Q R' O:=by
 obtain⟨d,b,j,l,m,r,u,B,y,A⟩:=h;exact⟨d,b,j,l,m,r,u,trivial,y,A⟩
structure Dw (w0 w:TJ) (D:Nat) (R:Rk) (O:Nat->Prop):Prop where
 two:jo w D 0 R R O
 own:∀k,O k->w0.heap.size<=k
 base:TI w0 w
variable {O':Nat->Prop}{w':TJ}
theorem Dw.step(h:Dw w0 w D R O)(h2:jo w' D 0 R' R' O')(b:fy w O w' O'): Dw w0 w' D R' O':=by
 have l:=h.base.size;refine⟨h2,λk j=>?_,⟨b.kept.os.trans h.base.os,b.kept.tape.trans h.base.tape,b.kept.output.trans h.base.output,cx l b.kept.size,λk j=>?_⟩⟩
 .rcases b.own k j with e|e
  .exact h.own k e
  .omega
 .rw[b.kept.block k (by omega) (λm=>by have:=h.own k m;omega),h.base.block k j]
theorem Dw.below(h:Dw w0 w D R O)(hb:TI w w'): Dw w0 w' D R O:=h.step (h.two.below hb) (fy.below O hb)
theorem Dw.blk(h:Dw w0 w D R O)(e:fy w O w' O'){k:Nat}{c:Array TK}{t:Nat}(b:w.heap[k]?=some (.cells c t (0,0)))(ht:t∉jd): w'.heap[k]?=some (.cells c t (0,0)):=(e.far (cS b) (nP h.two b ht)).1.trans b
variable {v:TK}
theorem Dw.row(h:Dw w0 w D R O)(l:fy w O w' O'){B e s n:Nat}{b:List TK}(j:w.ownsRow B e s v n b)(he:e∉jd): w'.ownsRow B e s v n b:=du j l.kept λg m=>by obtain⟨c,r,_⟩:=cZ j m;exact nP h.two r he
def OT(w0 w:TJ)(D:Nat)(g p:TM)(b c1 c2:Int)(R:Rk)(O:Nat->Prop)(e:Ending)(w':TJ):Prop:=Small g/\∃q m k O',e=.returned (nA (j5 g p b c1 c2 R).res.outcome (j5 g p b c1 c2 R).res.step (j5 g p b c1 c2 R).res.dC q m k (qG g p b c1 c2 R) (j5 g p b c1 c2 R).saved (j5 g p b c1 c2 R).e)/\w'.ownsRow w.heap.size 2 1 (.slice q m k) (j5 g p b c1 c2 R).res.dH.length ((j5 g p b c1 c2 R).res.dH.map (Z Y))/\Dw w0 w' D (j5 g p b c1 c2 R).R O'/\fy w O w' O'
theorem qy{nn:Nat}(h:Dw w0 w D R O)(he:Env w0 z f)(y:Sm R nn 1000)(A:nn+2000<=1000000000)(g p:TM)(B:g.size<=1048576)(C:p.size<=1048576)(r c1 c2:Int):TL prog 12 #[.pointer (some ⟨D,0,none⟩),.string g,.string p,.agg #[Z Y r,Z Y c1,Z Y c2]] w (OT w0 w D g p r c1 c2 R O):=by
 have l:=he.base h.base;refine(Ru.AX D 0 nn 1000 R R O g p r c1 c2 z f w h.two y A TG (by omega) B C l.Oo l.comp l.B6 l.pow (λk E F=>?_)).mono ?_
 .have:=he.lt k E;have:=h.own k F;omega
 .rintro e w' ⟨u,⟨q,m,k,rfl,b⟩,O',G,j⟩;exact⟨u,q,m,k,O',rfl,b,h.step (DR G) j,j⟩
theorem xd(h:Dw w0 w D R O)(q:Int):TL prog 18 #[.pointer (some ⟨D,0,none⟩),Z Y q] w λe w'=>e=.returned (.tuple #[])/\∃O',Dw w0 w' D { R with cT:=q } O'/\fy w O w' O':=by
 refine(Pk.LZ q h.two.half).mono ?_;rintro e w' ⟨rfl,j⟩;obtain⟨O',l,b⟩:=j.two;exact⟨rfl,O',h.step (DR l) b,b⟩
theorem DZ(w0 w:TJ)(hb:TI w0 w)(q:Int):TL prog 6 #[Z Y q] w λe w'=>e=.returned (.pointer (some ⟨w.heap.size+1,0,none⟩))/\TI w w'/\∃O,Dw w0 w' (w.heap.size+1) ⟨[],[],[],q,-1,false⟩ O:=by
 refine(Pk.Ab q w).mono ?_;rintro e w' ⟨rfl,b,hd⟩;obtain⟨O,j,l⟩:=Pk.pP.new b hd;have:=hb.size;exact⟨rfl,b,O,j,λk m=>by have:=l k m;omega,hb.trans (b.mono hb.size)⟩
structure FM (w0 w:TJ) (D:Nat) (R:Rk) (O:Nat->Prop) (CB WB:Nat) (cc wc:Array TK) (v:TK) (xs:List Int):Prop where
 d:Dw w0 w D R O
 cb:w.heap[CB]?=some (.cells cc 23 (0,0))
 wb:w.heap[WB]?=some (.cells wc 32 (0,0))
 row:w.ownsRow 0 2 1 v xs.length (xs.map (Z Y))
theorem FM.step{e j:Nat}{l wc:Array TK}{m:List Int}(h:FM w0 w D R O e j l wc v m)(h2:Dw w0 w' D R' O')(b:fy w O w' O'): FM w0 w' D R' O' e j l wc v m:=⟨h2,h.d.blk b h.cb (by decide),h.d.blk b h.wb (by decide),h.d.row b h.row (by decide)⟩
theorem FM.below{b e:Nat}{j wc:Array TK}{l:List Int}(h:FM w0 w D R O b e j wc v l)(hb:TI w w'): FM w0 w' D R O b e j wc v l:=h.step (h.d.below hb) (fy.below O hb)
def Rl(w:TJ)(p:Option Addr)(n:Nat)(Q:Nat->Int):Prop := ∀j,j<n->∃g o,p=some ⟨g,o,none⟩/\g<w.heap.size/\w.cell? ⟨g,o+j,none⟩=some (Z Y (Q j))
theorem oI{B n:Nat}{V:List Int}{q:Option Addr}{m k:Nat}(h:w.ownsRow B 2 1 (.slice q m k) n (V.map (Z Y)))(b:n=V.length): m=V.length/\fF w Y q V:=by
 subst b;obtain⟨j,l,e,hi⟩:=ir h;injection e with e1 e2 _;exact⟨e2,by rw[e1];exact hi⟩
end Hl
namespace Hl
open Go.RowKit
open Rd (Rk)
open Pk (Sm jS cS)
open Ru (j5 qG nA)
theorem F3(w:TJ)(z f:Addr)(he:Env w z f):TL prog 5 #[] w λe U=>e=.returned (.bool true)/\TI w U:=by
 have X:=cP he;clear he;go_enter func5,ntmps5;go_wp2_with fail;refine(EM _).mono ?_;rintro e w1 ⟨rfl,A⟩;obtain rfl:=A.symm;clear A;go_wp2_with fail;refine(DZ w w (cj _ _) _).mono ?_;rintro e w2 ⟨rfl,B,O,G⟩;have t:=cP G;have H:=cP B;have C:=cP (qy (nn:=0) G (cO X) ((JJ _).mono TG (by omega)) (by omega) g0 ft (by decide) (by rw[EN];omega) 1 1 10);clear G B;go_wp2_with fail;refine(cO C).mono ?_;clear C;rintro e w3 ⟨r,q,m,k,O',rfl,u,D,I⟩;have N:qG g0 ft 1 1 10 ⟨[],[],[],1099511627776,-1,false⟩=0:=(DL r).1;have P:(j5 g0 ft 1 1 10 ⟨[],[],[],1099511627776,-1,false⟩).e=0:=(DL r).2.1;have J:(j5 g0 ft 1 1 10 ⟨[],[],[],1099511627776,-1,false⟩).res=⟨1,3,0,[0,3,1,1000000000]⟩:=(DL r).2.2.1;have Q:(j5 g0 ft 1 1 10 ⟨[],[],[],1099511627776,-1,false⟩).saved=2:=(DL r).2.2.2;rw[J] at u;unfold nA;rw[N,P,J,Q];obtain⟨K,R⟩:=oI (V:=[0,3,1,1000000000]) u rfl;have K:m=4:=K;subst K;have s:=cP R;have E:Hid (TI w w3):=D.base;clear D I u R r N P J Q t H;go_wp2_with fail;have y:TI w3 (((w3.alloc (.cells #[Z .u8 1,Z Y 3,Z Y 0,.slice q 4 k] 32)).alloc (.cells #[Z Y 0,Z Y 2] 43)).alloc (.cells #[Z Y 0,Z Y 3,Z Y 1,Z Y 1000000000] 2)):=((TH.alloc TG _).alloc (by simp) _).alloc (by simp;omega) _;have l:=ct ((w3.alloc (.cells #[Z .u8 1,Z Y 3,Z Y 0,.slice q 4 k] 32)).alloc (.cells #[Z Y 0,Z Y 2] 43)) (.cells #[Z Y 0,Z Y 3,Z Y 1,Z Y 1000000000] 2);rw[ee,ee] at l;generalize p:World.alloc (World.alloc (World.alloc _ _) _) _=W at *;have S:fF W Y (some ⟨w3.heap.size+1+1,0,none⟩) [0,3,1,1000000000]:=λj o=>by
  refine⟨_,rfl,cS l,?_⟩;have g:j<4:=o;have:j=0\/j=1\/j=2\/j=3:=by omega
  rcases this with rfl|rfl|rfl|rfl <;> simp[World.cell?,l]
 refine(zK q (some ⟨w3.heap.size+1+1,0,none⟩) k 4 [0,3,1,1000000000] [0,3,1,1000000000] W ((cO s).below y) S (by decide)).mono ?_;rintro e w4 ⟨⟨b,rfl,T⟩,F⟩;have L:b=true:=T rfl;subst L;have M:Hid (TI w w4):=(cO E).trans ((y.trans (F.mono y.size)).mono (cO E).size);clear T F S l y p;go_wp2;go_ret;exact⟨rfl,cO M⟩
end Hl
namespace Hl
open Go.RowKit
open Rd (Rk)
open Pk (Sm jS cS fy)
open Ru (j5 qG nA fU)
theorem SG(g p:TM)(K c1 c2:Int)(qp:Option Addr)(n cap:Nat)(Q:Nat->Int)(z f:Addr)(w:TJ)(he:Env w z f)(hq:Rl w qp n Q)(hn:n<=1048576)(hg:g.size<=1048576)(hp:p.size<=1048576)(h0 : -9223372036854775808<=K/\K<=9223372036854775807)(h1 : -9223372036854775808<=c1/\c1<=9223372036854775807)(h2 : -9223372036854775808<=c2/\c2<=9223372036854775807):TL prog 4 #[.string g,.string p,.agg #[Z Y K,Z Y c1,Z Y c2],.slice qp n cap] w λe w'=>e=.returned (.bool true)/\TI w w':=by
 have HE:=cP he;have HQ:=cP hq;have aC:TI w (w.alloc (.cells #[Z Y K,Z Y c1,Z Y c2] 23)):=TH.alloc TG _;have aG:=ct w (.cells #[Z Y K,Z Y c1,Z Y c2] 23);have bx:=xR K (n:=50) (by omega);have bA:=xR c1 (n:=5) (by omega);have bB:=xR c2 (n:=201) (by omega);have aH:=cP (λl=>JU K c1 c2 l h0 h1 h2);generalize aT:w.alloc (.cells #[Z Y K,Z Y c1,Z Y c2] 23)=W1 at *;have aU:=cP (F3 W1 z f (he.base aC));have aV:=cP aT;clear he hq h0 h1 h2 aT;obtain⟨every,aW⟩:∃x,pk K 50+1=x:=⟨_,rfl⟩
 obtain⟨keep,aX⟩:∃x,pk c1 5+1=x:=⟨_,rfl⟩
 obtain⟨H,aY⟩:∃x,pk c2 201=x:=⟨_,rfl⟩
 rw[aW,aX,aY] at aH;have aa:Cf every keep H:=⟨by omega,by omega,by omega,by omega,by omega⟩
 clear aW aX aY bx bA bB;go_enter func4,ntmps4;go_wp2_with fail;rw[cO aV];refine(cO aU).mono ?_;rintro e w1 ⟨rfl,aI⟩;have ad:=(aI.block _ (cS aG)).trans aG;have aF:=aC.trans (aI.mono aC.size);have aZ:=cP (DZ w w1 aF 0);clear aI aU aG;go_wp2_with fail;refine(cO aZ).mono ?_;rintro e w2 ⟨rfl,a1,O,hD⟩;have t:=(a1.block _ (cS ad)).trans ad;have x0:w2.cell? ⟨w.heap.size,0,none⟩=some (Z Y K):=by simp[World.cell?,t]
 have x1:w2.cell? ⟨w.heap.size,1,none⟩=some (Z Y c1):=by simp[World.cell?,t]
 have x2:w2.cell? ⟨w.heap.size,2,none⟩=some (Z Y c2):=by simp[World.cell?,t]
 have HD:=cP hD;clear aZ ad a1 hD t;go_wp2_with fail;refine(cO aH w2).mono ?_;rintro e w3 ⟨rfl,a6⟩;have N:=(cO HD).below a6;have a7:=cP N;clear aH a6 x0 x1 x2 N;go_wp2_with fail;have a8:TI w3 (w3.alloc (.cells #[Z Y (every:Int),Z Y (keep:Int),Z Y (H:Int)] 23)):=TH.alloc TG _;have aJ:=ct w3 (.cells #[Z Y (every:Int),Z Y (keep:Int),Z Y (H:Int)] 23);have aK:=(cO a7).below a8;generalize bC:w3.alloc (.cells #[Z Y (every:Int),Z Y (keep:Int),Z Y (H:Int)] 23)=W4 at *;have aD:=(cO HE).base aK.base;refine(IJ g p H z f W4 aD.Oo aD.comp aD.B6).mono ?_;rintro e s ⟨V,ba,v,rfl,C⟩;obtain⟨q0,k0,rfl⟩:=jS C;have ae:=(V.block _ (cS aJ)).trans aJ;have bc:=aK.below V;have aL:=Pk.mE C (cy _);have ab:=cP ba;obtain⟨er,aM⟩:∃x,Hid (mH g p H=x):=⟨_,rfl⟩
 obtain⟨r,aN⟩:∃x,Hid (fQ g p H=x):=⟨_,rfl⟩
 rw[cO aN] at aL ⊢;rw[cO aM];have bK:er=0\/er≠0:=Decidable.em _;have bd:FM w (s.alloc (.cells #[Z .u8 r.outcome,Z Y r.step,Z Y r.dC,.slice q0 r.dH.length k0] 32)) (w1.heap.size+1) ⟨[],[],[],0,-1,false⟩ O w3.heap.size s.heap.size #[Z Y (every:Int),Z Y (keep:Int),Z Y (H:Int)] #[Z .u8 r.outcome,Z Y r.step,Z Y r.dC,.slice q0 r.dH.length k0] (.slice q0 r.dH.length k0) r.dH:=by
  have B:TI s (s.alloc (.cells #[Z .u8 r.outcome,Z Y r.step,Z Y r.dC,.slice q0 r.dH.length k0] 32)):=TH.alloc TG _;exact⟨bc.below B,(B.block _ (cS ae)).trans ae,ct _ _,cW aL B⟩
 have bg:=cP bd;clear a8 aJ aK bC aD V C ae bc aL ba HD a7 bd aC aF aV;go_wp2_with fail
 go_loopw [14,15] (λfr i wr=>∃(j y:Nat) (R:Rk) (O:Nat->Prop),j<=n/\fr=Z Y (y:Int)/\i=Z Y (j:Int)/\Hid (FM w wr (w1.heap.size+1) R O w3.heap.size s.heap.size #[Z Y (every:Int),Z Y (keep:Int),Z Y (H:Int)] #[Z .u8 r.outcome,Z Y r.step,Z Y r.dC,.slice q0 r.dH.length k0] (.slice q0 r.dH.length k0) r.dH/\Fu g p every keep H j y R)) (λ_ i _=>n-(intOf i).toNat)
 case atStart=>exact⟨0,0,_,_,cy _,rfl,rfl,cO bg,Fu.new g p every keep H 0⟩
 case round =>
  clear bg;obtain⟨j,y,R,O1,hj,rfl,rfl,HI⟩:=hrel;by_cases bD:j<n
  .obtain⟨qg,qo,bE,bh,bj⟩:=cO HQ j bD;have bJ:wr.cell? ⟨qg,qo+j,none⟩=some (Z Y (Q j)):=((cO HI).1.d.base.cell (p:=⟨qg,qo+j,none⟩) bh).trans bj;subst bE;have bF:(j:Int)<(n:Int):=by omega
   have bL:¬(j:Int)<0:=by omega
   have af:=cP (xd (cO HI).1.d (Q j));clear bj bh;go_wp2_with fail;refine(cO af).mono ?_;rintro e u1 ⟨rfl,O2,W,ag⟩;have E:=(cO HI).1.step W ag;have hy:=Fu.y aa (cO ab) (cO HI).2;have ah:=cP (qy W (cO HE) (Sm.tQ (cO HI).2.sm (Q j)) (by omega) g p hg hp (every:Int) (keep:Int) (H:Int));have K:u1.cell? ⟨w3.heap.size,0,none⟩=some (Z Y (every:Int)):=by simp[World.cell?,E.cb]
   have c1:u1.cell? ⟨w3.heap.size,1,none⟩=some (Z Y (keep:Int)):=by simp[World.cell?,E.cb]
   have c2:u1.cell? ⟨w3.heap.size,2,none⟩=some (Z Y (H:Int)):=by simp[World.cell?,E.cb]
   have ai:=cP E;clear W ag E af;go_wp2_with fail;refine(cO ah).mono ?_;clear ah;rintro e u2 ⟨_,q,m,k,O3,rfl,C,N,aj⟩;have ak:=(cO HI).2.round aa (cO ab) (Q j) (o:=_) rfl (de:=_) rfl;have bk:=Ru.ID (g:=g) (p:=p) (every:=every) (keep:=keep) (cap:=H) (R:={ R with cT:=Q j }) (cO ab);generalize j5 g p (every:Int) (keep:Int) (H:Int) { R with cT:=Q j }=o at *;generalize qG g p (every:Int) (keep:Int) (H:Int) { R with cT:=Q j }=de at *;rw[cO aM,cO aN] at ak;obtain⟨F,I,⟨bM,bN⟩,bn,_⟩:=ak;have A:=(cO ai).step N aj;obtain⟨em,an⟩:=oI C rfl;subst em;obtain⟨_,ao⟩:=oI A.row rfl;have bG:=cS A.wb;have v0:u2.cell? ⟨s.heap.size,0,none⟩=some (Z .u8 r.outcome):=by simp[World.cell?,A.wb]
   have v1:u2.cell? ⟨s.heap.size,1,none⟩=some (Z Y r.step):=by simp[World.cell?,A.wb]
   have v2:u2.cell? ⟨s.heap.size,2,none⟩=some (Z Y r.dC):=by simp[World.cell?,A.wb]
   have v3:u2.cell? ⟨s.heap.size,3,none⟩=some (.slice q0 r.dH.length k0):=by simp[World.cell?,A.wb]
   have L:TI u2 ((u2.alloc (.cells #[Z .u8 (o.res.outcome:Int),Z Y (o.res.step:Int),Z Y (o.res.dC:Int),.slice q o.res.dH.length k] 32)).alloc (.cells #[Z Y (de:Int),Z Y (o.saved:Int)] 43)):=(TH.alloc TG _).alloc (by simp) _;have aO:((u2.alloc (.cells #[Z .u8 (o.res.outcome:Int),Z Y (o.res.step:Int),Z Y (o.res.dC:Int),.slice q o.res.dH.length k] 32)).alloc (.cells #[Z Y (de:Int),Z Y (o.saved:Int)] 43)).heap[u2.heap.size]?=some (.cells #[Z .u8 (o.res.outcome:Int),Z Y (o.res.step:Int),Z Y (o.res.dC:Int),.slice q o.res.dH.length k] 32 (0,0)):=by
    rw[cN _ _ _ (by simp)];exact ct u2 _
   have M:=ct (u2.alloc (.cells #[Z .u8 (o.res.outcome:Int),Z Y (o.res.step:Int),Z Y (o.res.dC:Int),.slice q o.res.dH.length k] 32)) (.cells #[Z Y (de:Int),Z Y (o.saved:Int)] 43);rw[ee] at M;have aq:=cP A;have ar:=cP (an.below L);have au:=cP (ao.below L);have aE:=cP bn;have av:=cP F;unfold nA;clear C N aj A an ao bn F ai K c1 c2;go_wp2_with fail;generalize aP:World.alloc (World.alloc _ _) _=U3 at *;have aw:=cP ((cO aq).below L);refine(xC _ _ _ _ _ _ q q0 k k0 o.res.dH r.dH U3 (cO ar) (cO au) (by omega)).mono ?_;rintro e u4 ⟨⟨b,rfl,ax⟩,P⟩;have S:=(P.block _ (cS aO)).trans aO;have J:=(P.block _ (cS M)).trans M;have bo:=(cO aw).below P;have bp:=cP bo;have x0:u4.cell? ⟨u2.heap.size,0,none⟩=some (Z .u8 (o.res.outcome:Int)):=by simp[World.cell?,S]
   have x1:u4.cell? ⟨u2.heap.size,1,none⟩=some (Z Y (o.res.step:Int)):=by simp[World.cell?,S]
   have x2:u4.cell? ⟨u2.heap.size,2,none⟩=some (Z Y (o.res.dC:Int)):=by simp[World.cell?,S]
   have x3:u4.cell? ⟨u2.heap.size,3,none⟩=some (.slice q o.res.dH.length k):=by simp[World.cell?,S]
   have ay:=cP ax;clear ax P aO M S bo aP L v0 v1 v2 v3 aw ar au aq;go_wp2_with fail;refine(BE _ _ _ q o.res.dH.length k u4).mono ?_;rintro e u5 ⟨⟨nb,rfl,bq⟩,V⟩;have az:=(V.block _ (cS J)).trans J;have aQ:=(cO bp).below V;have T:=cP aQ;have y0:u5.cell? ⟨u2.heap.size+1,0,none⟩=some (Z Y (de:Int)):=by simp[World.cell?,az]
   have y1:u5.cell? ⟨u2.heap.size+1,1,none⟩=some (Z Y (o.saved:Int)):=by simp[World.cell?,az]
   have K:u5.cell? ⟨w3.heap.size,0,none⟩=some (Z Y (every:Int)):=by simp[World.cell?,aQ.cb]
   have U:=cP (Hi de o.saved every u5 aa.e1 aa.e2 (by omega) (by omega));have aA:=cP bq;clear bq V J az aQ x0 x1 x2 x3 bp;rcases cO av with ⟨D,u⟩|⟨D,br,u⟩
   .have aR:b=true:=cO ay (by rw[u]) (by rw[u]) (by rw[u]) (by rw[u]);subst aR;rw[D];have bH:(er == er)=true:=Bs.2 rfl;by_cases X:er=0
    .have aS:(er == 0)=true:=Bs.2 X;have bs:¬(de:Int)<(y:Int):=by have:=I X;omega
     have HZ:=cP X;clear X D u av ay aA I;go_wp2_with fail;refine(cO U).mono ?_;rintro e u6 ⟨rfl,B⟩;have G:=cP ((cO T).below B);clear B U T y0 y1 K;go_wp2;go_roundw
     case rel=>exact⟨j+1,_,o.R,O3,by omega,rfl,by go_num,cO G,cO aE⟩
     case measure=>simp[intOf];omega
    .have aS:(er == 0)=false:=cC.2 X;have HZ:=cP X;clear X D u av ay aA I;go_wp2_with fail;refine(cO U).mono ?_;rintro e u6 ⟨rfl,B⟩;have G:=cP ((cO T).below B);clear B U T y0 y1 K;go_wp2;go_roundw
     case rel=>exact⟨j+1,_,o.R,O3,by omega,rfl,by go_num,cO G,cO aE⟩
     case measure=>simp[intOf];omega
   .have bI:nb=true:=cO aA (by rw[u];rfl) (by rw[u];rfl) (by rw[u];rfl) (by rw[u];rfl);subst bI;rw[D];have bs:¬(de:Int)<(y:Int):=by have:=I br;omega
    subst br;cases b with
    |true =>
     clear D u av ay aA I;go_wp2_with fail;refine(cO U).mono ?_;rintro e u6 ⟨rfl,B⟩;have G:=cP ((cO T).below B);clear B U T y0 y1 K;go_wp2;go_roundw
     case rel=>exact⟨j+1,_,o.R,O3,by omega,rfl,by go_num,cO G,cO aE⟩
     case measure=>simp[intOf];omega
    |false =>
     clear D u av ay aA I;go_wp2_with fail;refine(cO U).mono ?_;rintro e u6 ⟨rfl,B⟩;have G:=cP ((cO T).below B);clear B U T y0 y1 K;go_wp2;go_roundw
     case rel=>exact⟨j+1,_,o.R,O3,by omega,rfl,by go_num,cO G,cO aE⟩
     case measure=>simp[intOf];omega
  .obtain rfl:j=n:=by omega
   have bF:¬(j:Int)<(j:Int):=by omega
   have af:=cP (xd (cO HI).1.d 1099511627776);go_wp2_with fail;refine(cO af).mono ?_;rintro e u1 ⟨rfl,O2,W,ag⟩;have E:=(cO HI).1.step W ag;have hy:=Fu.y aa (cO ab) (cO HI).2;have ah:=cP (qy W (cO HE) (Sm.tQ (cO HI).2.sm 1099511627776) (by omega) g p hg hp (every:Int) (keep:Int) (H:Int));have K:u1.cell? ⟨w3.heap.size,0,none⟩=some (Z Y (every:Int)):=by simp[World.cell?,E.cb]
   have c1:u1.cell? ⟨w3.heap.size,1,none⟩=some (Z Y (keep:Int)):=by simp[World.cell?,E.cb]
   have c2:u1.cell? ⟨w3.heap.size,2,none⟩=some (Z Y (H:Int)):=by simp[World.cell?,E.cb]
   have ai:=cP E;clear W ag E af;go_wp2_with fail;refine(cO ah).mono ?_;clear ah;rintro e u2 ⟨_,q,m,k,O3,rfl,C,N,aj⟩;have ak:=(cO HI).2.round aa (cO ab) 1099511627776 (o:=_) rfl (de:=_) rfl;have bk:=Ru.ID (g:=g) (p:=p) (every:=every) (keep:=keep) (cap:=H) (R:={ R with cT:=1099511627776 }) (cO ab);generalize j5 g p (every:Int) (keep:Int) (H:Int) { R with cT:=1099511627776 }=o at *;generalize qG g p (every:Int) (keep:Int) (H:Int) { R with cT:=1099511627776 }=de at *;rw[cO aM,cO aN] at ak;obtain⟨F,I,_,_,aB⟩:=ak;have D:o.e=er:=aB rfl;have u:o.res=r:=by
    rcases F with ⟨_,h⟩|⟨h1,h2,_⟩
    .exact h
    .rw[D,h2] at h1;exact absurd h1 (by decide)
   have A:=(cO ai).step N aj;obtain⟨em,an⟩:=oI C rfl;subst em;obtain⟨_,ao⟩:=oI A.row rfl;have bG:=cS A.wb;have v0:u2.cell? ⟨s.heap.size,0,none⟩=some (Z .u8 r.outcome):=by simp[World.cell?,A.wb]
   have v1:u2.cell? ⟨s.heap.size,1,none⟩=some (Z Y r.step):=by simp[World.cell?,A.wb]
   have v2:u2.cell? ⟨s.heap.size,2,none⟩=some (Z Y r.dC):=by simp[World.cell?,A.wb]
   have v3:u2.cell? ⟨s.heap.size,3,none⟩=some (.slice q0 r.dH.length k0):=by simp[World.cell?,A.wb]
   have L:TI u2 ((u2.alloc (.cells #[Z .u8 (o.res.outcome:Int),Z Y (o.res.step:Int),Z Y (o.res.dC:Int),.slice q o.res.dH.length k] 32)).alloc (.cells #[Z Y (de:Int),Z Y (o.saved:Int)] 43)):=(TH.alloc TG _).alloc (by simp) _;have M:=ct (u2.alloc (.cells #[Z .u8 (o.res.outcome:Int),Z Y (o.res.step:Int),Z Y (o.res.dC:Int),.slice q o.res.dH.length k] 32)) (.cells #[Z Y (de:Int),Z Y (o.saved:Int)] 43);rw[ee] at M;have aq:=cP A;have ar:=cP (an.below L);have au:=cP (ao.below L);unfold nA;have bu:=cP (And.intro D u);clear C N aj A an ao F ai K c1 c2 D u aB;go_wp2_with fail;generalize aP:(u2.alloc (.cells #[Z .u8 (o.res.outcome:Int),Z Y (o.res.step:Int),Z Y (o.res.dC:Int),.slice q o.res.dH.length k] 32)).alloc (.cells #[Z Y (de:Int),Z Y (o.saved:Int)] 43)=U3 at *;have aw:=cP ((cO aq).below L);refine(xC _ _ _ _ _ _ q q0 k k0 o.res.dH r.dH U3 (cO ar) (cO au) (by omega)).mono ?_;rintro e u4 ⟨⟨b,rfl,ax⟩,P⟩;have J:=(P.block _ (cS M)).trans M;have bw:Hid (TI w u4):=((cO aw).below P).d.base;have y0:u4.cell? ⟨u2.heap.size+1,0,none⟩=some (Z Y (de:Int)):=by simp[World.cell?,J]
   obtain⟨D,u⟩:=cO bu;have aR:b=true:=ax (by rw[u]) (by rw[u]) (by rw[u]) (by rw[u]);subst aR;rw[D];have bH:(er == er)=true:=Bs.2 rfl;clear ax P M J aP L v0 v1 v2 v3 aw ar au aq D u bu;by_cases X:er=0
   .have aS:(er != 0)=false:=by rw[X];rfl
    have bO:(y:Int)<=(de:Int):=by have:=I X;omega
    have HZ:=cP X;clear X I;go_wp2;go_ret;exact⟨rfl,cO bw⟩
   .have aS:(er != 0)=true:=by simpa using X
    have HZ:=cP X;clear X I;go_wp2;go_ret;exact⟨rfl,cO bw⟩
end Hl
namespace Hl
open Go.ChangeShapes Go.WideShapes Go.ChangeAt Go.RowKit
open Go.ChangeMaps (open_string shut_string)
theorem RH:prog.cellsOf 3=1:=by kernel_rfl
theorem S6:prog.cellsOf 23=3:=by kernel_rfl
theorem S5{x:Int}(h:(Lit.int .i64 x).wf=true): -9223372036854775808<=x/\x<=9223372036854775807:=by
 simpa [Lit.wf,IntKind.min,IntKind.max,IntKind.signed,IntKind.bits] using h
theorem Ky:∃b e j:Field,prog.underlying 23=some (.struct #[b,e,j])/\b.type=3/\e.type=3/\j.type=3/\b.offset=0/\e.offset=1/\j.offset=2:=⟨_,_,_,underlying23,rfl,rfl,rfl,rfl,rfl,rfl⟩
section
variable {H : Type} {enc : TypeId × Value → H} {w : World}
theorem SS{a:Addr}{v:TK}(h:w.cell? a=some v):a.spot=none/\a.block<w.heap.size:=by
 refine⟨?_,cE w _ h⟩;unfold World.cell? at h;split at h
 .split at h
  .cases h
  .rename_i b;cases e:a.spot with
   |none=>rfl
   |some z=>simp[e] at b
 .cases h
theorem SJ{e:Nat}{cs:List TK}{x:DataW H × List MemPlace}(h:DataW.trod enc prog w 0 (λ_=>true) true e 23 cs=some x):∃a b c,cs=[.int .i64 a,.int .i64 b,.int .i64 c]/\(-9223372036854775808<=a/\a<=9223372036854775807)/\(-9223372036854775808<=b/\b<=9223372036854775807)/\(-9223372036854775808<=c/\c<=9223372036854775807):=by
 obtain⟨C,D,E,hu,F,G,I,J,K,L⟩:=Ky;obtain⟨M,n,_,rfl,m,j,l⟩:=DataW.trod_struct hu h;rw[S6] at m
 match M,j with
 |[N,O,P],_ =>
  have r:=l 0 C rfl;have u:=l 1 D rfl;have y:=l 2 E rfl;rw[F,J,RH] at r;rw[G,K,RH] at u;rw[I,L,RH] at y;obtain⟨a,z,rfl,Q⟩:=DataW.trod_int underlying3 (x:=N) (by simpa using r);obtain⟨b,A,rfl,R⟩:=DataW.trod_int underlying3 (x:=O) (by simpa using u);obtain⟨c,B,rfl,S⟩:=DataW.trod_int underlying3 (x:=P) (by simpa using y)
  match cs,m with
  |[c0,c1,c2],_ =>
   simp at z A B;subst z A B;exact⟨a,b,c,rfl,S5 Q,S5 R,S5 S⟩
theorem Sg(k:IntKind)(b:List Int):Rows.uptoBulkAll (lits (H:=H) k b)=b.length:=by
 unfold lits
 induction b with
 |nil=>rfl
 |cons z r e=>simp only[wj,Rows.uptoBulkAll,cD,e,Rows.uptoBulk];omega
theorem S0{l:Nat}{cs:List TK}{x:DataW H × List MemPlace}(h:DataW.trod enc prog w 0 (λ_=>true) true l 39 cs=some x):∃p n c K,cs=[.slice p n c]/\Rl w p n K/\(∀j,j<n->-9223372036854775808<=K j/\K j<=9223372036854775807)/\n+1<=Rows.uptoBulk x.1:=by
 rcases open_ints underlying39 underlying3 RH h with ⟨e,z⟩|⟨a,m,r,y,e,_,I,J,D,z,b,A⟩
 .exact⟨none,0,0,λ_=>0,e,λj B=>(by omega),λj B=>(by omega),by rw[z];simp[Rows.uptoBulk]⟩
 .simp only[l9] at D;refine⟨some a,m,r,λj=>y.getD j 0,e,λj B=>?_,λj B=>?_,?_⟩
  .have E:=b j (by omega);have C:=SS (b 0 (by omega));obtain⟨g,o,sp⟩:=a;simp[Addr.add] at C;obtain⟨rfl,F⟩:=C;have u:j<y.length:=by omega
   refine⟨g,o,rfl,F,?_⟩;have G:(⟨g,o,none⟩:Addr).add j=⟨g,o+j,none⟩:=by
    unfold Addr.add;split <;> simp_all
   rw[<-G];exact E
  .have u:j<y.length:=by omega
   exact S5 (A (y.getD j 0) (by rw[cL,cH u];exact pY _))
  .rw[z];simp only[Rows.uptoBulk,Sg,A3,uT];omega
end
end Hl
end Go.Proofs.YtgkkdpegcieakaaGreatDoor
