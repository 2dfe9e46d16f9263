import Derived.Test.YtgkkdpegcieakaaGreatDoorCz25
import Derived.Test.YtgkkdpegcieakaaGreatDoorCz19
set_option linter.unusedVariables false
set_option linter.unusedSimpArgs false
set_option maxRecDepth 100000
set_option maxHeartbeats 16000000
namespace Go.Proofs.YtgkkdpegcieakaaGreatDoor
open Go.Proofs.Tryz
open Value renaming int→Z
open IntKind renaming i64→Y
open Go renaming World→TJ,Value→TK,Calls→TL
namespace Sp
open Go Go.RowKit
theorem xh{p:Nat->Bool}{n:Nat}(h:first p n=none):∀j,j<n->p j=false:=by
 intro j b;unfold first at h
 rw[List.find?_eq_none] at h;have:=h j (KH.2 b);simpa using this
def iw(s:TM):Pg:=⟨codeOf s,(codeOf s 5).headD [],(codeOf s 6).headD []⟩
theorem ph{s:TM}(h:(comp s).1=0):s.size<=2000/\(split s 10).length=7/\(∀j,j<7->dN j ((split s 10).getD j ⟨#[]⟩)=true)/\∀j,j<5->keeps (codeOf s j)=true:=by
 unfold comp at h;by_cases e:2000<s.size
 .rw[cg e] at h;exact absurd h (by decide)
 .rw[cd e] at h;cases b:first (λi=>!dN i ((split s 10).getD i ⟨#[]⟩)) (min 7 (split s 10).length) with
  |some i=>rw[b] at h;exact absurd h (by simp)
  |none =>
   rw[b] at h;simp only at h;by_cases l:7<(split s 10).length
   .rw[cg l] at h;exact absurd h (by decide)
   .rw[cd l] at h;by_cases m:(split s 10).length<7
    .rw[cg m] at h;exact absurd h (by simp)
    .rw[cd m] at h;cases r:first (λi=>decide (wO (codeOf s i) (codeOf s i).length 0 (codeOf s i).length 0≠some 1)) 5 with
     |some i=>rw[r] at h;exact absurd h (by simp)
     |none =>
      refine⟨by omega,by omega,λj u=>?_,λj u=>?_⟩
      .have:=xh b j (by omega);simpa using this
      .have:=xh r j u;unfold keeps;simpa using this
theorem xM{s:TM}(h:(comp s).1=0){i:Nat}(hi:i<5):kh (i == 2) (codeOf s i) 0=true:=by
 obtain⟨_,_,e,_⟩:=ph h;have b:=e i (by omega);unfold dN at b;rw[cd (by omega)] at b;simp only[Ns] at b;exact b.2.1
theorem xO{s:TM}(h:(comp s).1=0){i:Nat}(hi:5<=i)(j:i<7):(codeOf s i).length=1/\(codeOf s i).headD []∈fj:=by
 obtain⟨_,_,m,_⟩:=ph h;have b:=m i j;unfold dN at b;rw[cg hi] at b;simp only[Ns,decide_eq_true_eq] at b;obtain⟨_,e,r⟩:=b;unfold codeOf;refine⟨by rw[rY];exact e,?_⟩;generalize (ws ((split s 10).getD i ⟨#[]⟩)).tail=l at *
 match l,e with
 |[z],_=>exact r
theorem Gv{s:TM}(h:(comp s).1=0)(i:Nat):(codeOf s i).length<=4000:=by
 obtain⟨m,_,_,_⟩:=ph h;unfold codeOf ws;have e:=(jk ((split s 10).getD i ⟨#[]⟩) 32).2;rw[rY,List.length_tail];by_cases b:i<(split s 10).length
 .have j:(split s 10).getD i ⟨#[]⟩∈split s 10:=by rw[cL,cH b];exact pY b
  have:=r9 s 10 _ j;omega
 .have l:(split s 10).getD i ⟨#[]⟩=⟨#[]⟩:=by rw[cL,Tu (by omega)];rfl
  rw[l] at e ⊢;have r:(⟨#[]⟩:TM).size=0:=rfl;omega
theorem te{s:TM}(h:(comp s).1=0){i:Nat}(hi:i<5):Good (codeOf s i):=by
 have j:=xM h hi;have l:kh true (codeOf s i) 0=true:=by
  by_cases c:i=2
  .subst c;exact j
  .have e:(i == 2)=false:=cC.2 c;rw[e] at j;exact vW _ _ j
 obtain⟨_,_,_,m⟩:=ph h;have r:=m i hi;refine⟨l,?_,Gv h i⟩;rcases uM l with b|b
 .exact b.2
 .rw[r] at b;exact absurd b.1 (by decide)
theorem LX{s:TM}(h:(comp s).1=0){i:Nat}(hi:i<5)(h2:i≠2):kh false (codeOf s i) 0=true:=by
 have b:=xM h hi;have e:(i == 2)=false:=cC.2 h2;rw[e] at b;exact b
theorem KI{L:List Ln}{a b i:Nat}{x:Ed}(h:x∈PF L a b i):x.de=a/\x.vo=b/\∃l∈L,x.n=l.n:=by
 unfold PF at h;obtain⟨l,e,rfl⟩:=xD.1 h;exact⟨rfl,rfl,l,Tk (FT.1 e).1,rfl⟩
theorem Gy{L:List Ln}{a:Nat}{x:Ed}:∀b,x∈E9 L a b->x.de=a/\x.vo<b/\∃l∈L,x.n=l.n:=by
 intro b
 induction b with
 |zero=>intro h;cases h
 |succ b m =>
  intro h;rcases cJ.1 h with h|h
  .obtain⟨e,r,j⟩:=m h;exact⟨e,by omega,j⟩
  .obtain⟨e,r,j⟩:=KI h;exact⟨e,by omega,j⟩
theorem MY{L:List Ln}{n:Nat}{x:Ed}:∀k,x∈es L n k->x.de<k/\x.vo<n/\∃l∈L,x.n=l.n:=by
 intro k
 induction k with
 |zero=>intro h;cases h
 |succ k j =>
  intro h;rcases cJ.1 h with h|h
  .obtain⟨m,b,e⟩:=j h;exact⟨by omega,b,e⟩
  .obtain⟨m,b,e⟩:=Gy n h;exact⟨by omega,b,e⟩
theorem M6{L:List Ln}{x:Ln}:∀k,x∈vs L k->x∈L:=by
 intro k
 induction k with
 |zero=>intro h;cases h
 |succ k b =>
  intro h;rcases cJ.1 h with h|h
  .exact b h
  .unfold PW at h;exact Tk (FT.1 h).1
theorem EJ{s:TM}{l:Ln}(h:oL s=some l): -1000000000<=l.n/\l.n<=1000000000:=by
 have r:∀e a b j,fin s e a b j=some l->-1000000000<=l.n/\l.n<=1000000000:=by
  intro e a b j m;unfold fin at m;split at m
  .cases u:number (s.extract (j+1) s.size).data.toList with
   |none=>rw[u] at m;cases m
   |some n =>
    rw[u] at m;injection m with m;subst m;exact xo u
  .cases m
 unfold oL at h;split at h
 .cases h
 .split at h
  .split at h
   .cases h
   .exact r _ _ _ _ h
  .exact r _ _ _ _ h
theorem EE:∀(j:List TM) (k:Nat) (P Q:List (Option Ln)),(∀l,some l∈P->-1000000000<=l.n/\l.n<=1000000000)->dZ j k P=.ok Q->∀l,some l∈Q->-1000000000<=l.n/\l.n<=1000000000:=by
 intro j
 induction j with
 |nil=>intro k P Q m h;injection h with h;subst h;exact m
 |cons x r u =>
  intro k P Q m h;simp only[dZ] at h;split at h
  .cases h
  .rename_i p b;refine u _ _ _ ?_ h;intro l hl;rcases cJ.1 hl with hl|hl
   .exact m l hl
   .rw[eh] at hl;subst hl;unfold rh at b;split at b
    .cases b
    .cases e:oL x with
     |none=>rw[e] at b;cases b
     |some y =>
      rw[e] at b;injection b with b;injection b with b;subst b;exact EJ e
end Sp
section
open Go.RowKit
theorem Ai{s:TM}{L:List Sp.Ln}(h:Sp.dD s=.ok L):(Sp.vs L (Sp.nv L)).length=Sp.nv L/\Sp.nv L<=64/\∀l∈L,-1000000000<=l.n/\l.n<=1000000000:=by
 by_cases c:4000<s.size
 .rw[sA c] at h;cases h
 .cases hb:Sp.bad s with
  |some i=>rw[uZ c hb] at h;cases h
  |none =>
   cases j:Sp.dZ (Sp.split s 10) 0 [] with
   |error k=>rw[tf c hb j] at h;cases h
   |ok P =>
    cases r:Sp.gv P 0 [] with
    |error k=>rw[uD c hb j r] at h;cases h
    |ok T =>
     cases he:Sp.ge T P 0 [] with
     |error k=>rw[xk c hb j r he] at h;cases h
     |ok E =>
      have F:=py c hb j r he;have b:=F.spec;rw[h] at b;by_cases u:256<Sp.oY (Sp.dA P)\/64<Sp.nv (Sp.dA P)
      .rw[cg u] at b;cases b
      .rw[cd u] at b;injection b with b;subst b;refine⟨?_,by omega,λl m=>?_⟩
       .have y:=congrArg List.length (Sp.Mf F.mg F.QZ);rw[rY] at y;rw[y,F.tl]
       .unfold Sp.dA at m;rw[List.mem_filterMap] at m;obtain⟨o,z,e⟩:=m;simp only[id] at e;subst e;exact Sp.EE _ _ _ _ (λl m=>by cases m) j l z
end
section
open Go.RowKit
variable {w:TJ}
theorem LQ{M:Nat}{x:List UInt8}{j:TK}(h:Fn w M x j): ∃F b,j=.func (.func F) #[] b:=by
 rcases h with ⟨B,n,_,e,_⟩|⟨k,_,_,e⟩
 .exact⟨_,_,e⟩
 .exact⟨_,_,e⟩
theorem Eh{g:Nat}{L:List (List UInt8)}(h:fq w g L)(j:Sp.Good L): om w g L:=by
 refine⟨j,h.tS,h.lt,λi hi=>?_⟩;obtain⟨m,l,e⟩:=h.fn i hi;obtain⟨F,b,rfl⟩:=LQ e;exact⟨F,b,l,e⟩
theorem GC{s:TM}{P:Nat}{C:Array TK}{t:TypeId}(G:(Sp.comp s).1=0)(hb:w.heap[P]?=some (.cells C t (0,0)))(r:mC (Sp.split s 10) w P C 7): jJ w P (Sp.iw s):=by
 have e:∀j,w.cell? ⟨P,j,none⟩=C[j]?:=λj=>cn w P j C t (0,0) hb
 have l:∀j,5<=j->j<7->mX w P (j*4+1) ((Sp.codeOf s j).headD []):=by
  intro j H A;obtain⟨k,B,u,D,y⟩:=r.comb j A H;obtain⟨p,n,m,b,z,q,F,I⟩:=r.shape j A;have E:(Sp.codeOf s j).headD []=Sp.fj[k]!:=by
   have:Sp.codeOf s j=[Sp.fj[k]!]:=y;rw[this];rfl
  refine⟨b,Og[k]!,(e _).trans I.c1,?_,?_,?_⟩
  .rw[E,<-Lf k B];exact(e _).trans u
  .exact(e _).trans D
  .rw[E];exact KM k B
 refine⟨(cB.1 hb).1,λi hi=>?_,l 5 (by omega) (by omega),l 6 (by omega) (by omega)⟩;obtain⟨g,m,u,D,y⟩:=r.code i (by omega) hi;exact⟨g,m,(e _).trans u,Eh y (Sp.te G hi)⟩
end
section
open Go.RowKit
def M0(s:TM):List Int:=match Sp.dD s with | .error _=>[] | .ok L=>(Sp.vs L (Sp.nv L)).map (·.de)
def kM(s:TM):List Int:=match Sp.dD s with | .error _=>[] | .ok L=>(Sp.vs L (Sp.nv L)).map (·.n)
def pz(s:TM):List Sp.Ed:=match Sp.dD s with | .error _=>[] | .ok L=>Sp.es L (Sp.nv L) (Sp.nv L)
def yc(s:TM):Int:=match Sp.dD s with | .error (a,_)=>a | .ok _=>0
def QA(s:TM):Int:=match Sp.dD s with | .error (_,b)=>b | .ok _=>0
variable {s:TM}
theorem uO{w w':TJ}{e:Ending}(h:pH s w e w'): TI w w'/\∃v u x,e=.returned (.tuple #[dG v u x,Z Y (yc s),Z Y (QA s)])/\
  w'.ownsRow w.heap.size 21 1 v (M0 s).length ((M0 s).map (Z .i32))/\w'.ownsRow w.heap.size 2 1 u (kM s).length ((kM s).map (Z Y))/\w'.ownsRow w.heap.size 162 3 x (pz s).length (dh (pz s)):=by
 obtain⟨m,j⟩:=h;refine⟨m,?_⟩;unfold M0 kM pz yc QA;cases l:Sp.dD s with
 |error r =>
  obtain⟨a,b⟩:=r;rw[l] at j;exact⟨_,_,_,j,fc _ _ _ _,fc _ _ _ _,fc _ _ _ _⟩
 |ok L =>
  rw[l] at j;obtain⟨v,u,x,y,z,A,B⟩:=j;exact⟨v,u,x,y,by simpa using z,by simpa using A,B⟩
theorem Cg(h:Small s): (M0 s).length<=64/\(kM s).length<=64/\(pz s).length<=256:=by
 unfold M0 kM pz;cases b:Sp.dD s with
 |error e=>simp
 |ok L =>
  have:=h L b;simp;omega
theorem EA(s:TM):(M0 s).length=(kM s).length:=by
 unfold M0 kM;cases Sp.dD s with
 |error b=>rfl
 |ok L=>simp
theorem Jp(h:yc s=0): ∃L,Sp.dD s=.ok L:=by
 unfold yc at h;cases e:Sp.dD s with
 |ok L=>exact⟨L,rfl⟩
 |error l =>
  exfalso;obtain⟨a,b⟩:=l;rw[e] at h;simp only at h;subst h;by_cases c:4000<s.size
  .rw[sA c] at e;cases e
  .cases hb:Sp.bad s with
   |some i=>rw[uZ c hb] at e;cases e
   |none =>
    cases hl:Sp.dZ (Sp.split s 10) 0 [] with
    |error k=>rw[tf c hb hl] at e;cases e
    |ok P =>
     rw[pr c hb hl] at e;split at e
     .cases e
     .rename_i j;injection e with e;rw[e] at j;exact j rfl
theorem qw{g p:TM}(B:yc g=0)(e:(Sp.comp p).1=0)(j:Small g):Sp.iN (Sp.iw p) (pz g) (kM g).length/\∀x∈kM g,Sp.i64 x:=by
 obtain⟨L,m⟩:=Jp B;obtain⟨C,E,u⟩:=Ai m;have y:kM g=(Sp.vs L (Sp.nv L)).map (·.n):=by unfold kM;rw[m]
 have D:pz g=Sp.es L (Sp.nv L) (Sp.nv L):=by unfold pz;rw[m]
 have z:(kM g).length=Sp.nv L:=by rw[y,rY,C]
 refine⟨⟨λi hi=>Sp.te e hi,λi hi A=>Sp.LX e hi A,(Cg j).2.2,by omega,λx b=>?_,(Sp.xO e (by omega) (by omega)).2,(Sp.xO e (by omega) (by omega)).2⟩,λx b=>?_⟩
 .rw[D] at b;obtain⟨F,A,l,r,G⟩:=Sp.MY _ b;have:=u l r;refine⟨by omega,by omega,?_⟩;unfold Sp.i64;omega
 .rw[y] at b;obtain⟨l,r,rfl⟩:=xD.1 b;have:=u l (Sp.M6 _ r);unfold Sp.i64;omega
def mH(g p:TM)(cT:Int):Int:=if yc g≠0 then yc g else if (Sp.comp p).1≠0 then (Sp.comp p).1 else if cT<0\/200<cT then 8 else 0
end
section
open Go.RowKit
theorem LF{P:Sp.Pg}{Es:List Sp.Ed}{cap s:Nat}{c:Sp.Cfg}{b:Sp.nK}(j:Sp.BH P Es cap (cap+1-s) s c=b)(u:s<=cap){e:Int}(he:Sp.gu cap c s=e)(r:e≠0):(b.outcome:Int)=e/\b.step=s/\b.dC=0/\b.dH=c.val:=by
 rw[show cap+1-s=(cap-s)+1 by omega,Sp.BH] at j;unfold Sp.gu at he;by_cases l:Sp.quiet c s=true
 .rw[cg l] at j he;rw[<-j,<-he];exact⟨rfl,rfl,rfl,rfl⟩
 .rw[cd l] at j he;by_cases m:cap<=s
  .rw[cg m] at j he;rw[<-j,<-he];exact⟨rfl,rfl,rfl,rfl⟩
  .rw[cd m] at he;exact absurd he.symm r
theorem Oc{P:Sp.Pg}{Es:List Sp.Ed}{cap s:Nat}{c:Sp.Cfg}{b:Sp.nK}(e:Sp.BH P Es cap (cap+1-s) s c=b)(m:s<=cap)(he:Sp.gu cap c s=0):s<cap/\(match Sp.lK P Es c s c.val.length with | .error i=>(⟨3,s,i,c.val⟩:Sp.nK) | .ok a=>Sp.BH P Es cap (cap+1-(s+1)) (s+1) (Sp.fh P c.val.length a))=b:=by
 rw[show cap+1-s=(cap-s)+1 by omega,Sp.BH] at e;unfold Sp.gu at he;by_cases j:Sp.quiet c s=true
 .rw[cg j] at he;exact absurd he (by decide)
 .rw[cd j] at e he;by_cases l:cap<=s
  .rw[cg l] at he;exact absurd he (by decide)
  .rw[cd l] at e;refine⟨by omega,?_⟩;rw[show cap+1-(s+1)=cap-s by omega];exact e
theorem Aw(cap:Nat)(c:Sp.Cfg)(s:Nat):0<=Sp.gu cap c s/\Sp.gu cap c s<=2:=by
 unfold Sp.gu;split <;> (try split) <;> omega
end
section
open Go.RowKit
theorem tn{B:Nat}{w W:TJ}{R:Nat}(h:Below B w W)(e:B<=R)(a b c d:TK):Below B w (j6 W R a b c d):=(((h.setCell (p:=⟨R,0,none⟩) e _).setCell (p:=⟨R,1,none⟩) e _).setCell (p:=⟨R,2,none⟩) e _).setCell (p:=⟨R,3,none⟩) e _
def fQ(g p:TM)(cT:Int):Sp.nK:=if mH g p cT=0 then Sp.Fw (Sp.iw p) (kM g) (pz g) cT.toNat else ⟨0,0,0,[]⟩
end
section
open Go.RowKit
def ft:TM:=⟨#[110,101,119,58,32,118,97,108,117,101,32,105,110,32,109,105,110,10,103,111,58,32,118,97,108,117,101,32,49,48,48,48,48,48,48,48,48,48,32,60,32,115,116,101,112,32,48,32,61,32,118,97,108,117,101,32,111,108,100,32,60,32,109,97,120,32,42,10,109,115,103,58,32,118,97,108,117,101,32,119,101,105,103,104,116,32,43,10,104,97,108,116,58,32,49,10,103,105,118,101,58,32,49,10,98,121,58,32,109,105,110,10,97,108,108,58,32,115,117,109]⟩
theorem EN:ft.size=120:=by kernel_rfl
theorem BP:(Sp.comp ft).1=0:=by kernel_rfl
theorem EM(w:TJ):TL prog 19 #[.string ⟨#[114,101,97,99,104]⟩] w λe b=>e=.returned (.tuple #[.string ft,Z Y 0])/\b=w:=by
 go_enter func19,ntmps19;go_wp2;exact cr (v := .tuple #[.string ft,Z Y 0]) (by simp[results,results19,go_sem];rfl) rfl ⟨rfl,rfl⟩
end
end Go.Proofs.YtgkkdpegcieakaaGreatDoor
