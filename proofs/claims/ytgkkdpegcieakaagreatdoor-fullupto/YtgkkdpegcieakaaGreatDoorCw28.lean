import Derived.Test.YtgkkdpegcieakaaGreatDoorCw27
import Derived.Test.YtgkkdpegcieakaaGreatDoorCw21
set_option linter.all false
set_option maxRecDepth 100000
set_option maxHeartbeats 16000000
namespace Go.Proofs.YtgkkdpegcieakaaGreatDoor
open Go.Proofs.Tryz
open Value renaming int→Z,string→H,tuple→WX
open IntKind renaming i64→Y
open Go renaming World→WR,Value→WS,Calls→WT
open Go.RowKit
namespace Sp
open Go Go.RowKit
theorem yi{p:Nat->Bool}{n:Nat}(h:first p n=none):∀j,j<n->p j=false:=by
 intro j b;unfold first at h
 rw[List.find?_eq_none] at h;have:=h j (VT.2 b);simpa using this
def ik(s:WU):Pg:=⟨codeOf s,(codeOf s 5).headD [],(codeOf s 6).headD []⟩
theorem pF{s:WU}(h:(comp s).1=0):s.size<=2000/\(split s 10).length=7/\(∀j,j<7->dO j ((split s 10).getD j ⟨#[]⟩)=true)/\∀j,j<5->keeps (codeOf s j)=true:=by
 unfold comp at h;by_cases e:2000<s.size
 .rw[T0 e] at h;exact absurd h (by decide)
 .rw[TZ e] at h;cases b:first (λi=>!dO i ((split s 10).getD i ⟨#[]⟩)) (min 7 (split s 10).length) with
  |some i=>rw[b] at h;exact absurd h (by simp)
  |none =>
   rw[b] at h;simp only at h;by_cases l:7<(split s 10).length
   .rw[T0 l] at h;exact absurd h (by decide)
   .rw[TZ l] at h;by_cases m:(split s 10).length<7
    .rw[T0 m] at h;exact absurd h (by simp)
    .rw[TZ m] at h;cases r:first (λi=>decide (zZ (codeOf s i) (codeOf s i).length 0 (codeOf s i).length 0≠some 1)) 5 with
     |some i=>rw[r] at h;exact absurd h (by simp)
     |none =>
      refine⟨by omega,by omega,λj u=>?_,λj u=>?_⟩
      .have:=yi b j (by omega);simpa using this
      .have:=yi r j u;unfold keeps;simpa using this
theorem xT{s:WU}(h:(comp s).1=0){i:Nat}(hi:i<5):kh (i == 2) (codeOf s i) 0=true:=by
 obtain⟨_,_,e,_⟩:=pF h;have b:=e i (by omega);unfold dO at b;rw[TZ (by omega)] at b;simp only[V6] at b;exact b.2.1
theorem xx{s:WU}(h:(comp s).1=0){i:Nat}(hi:5<=i)(j:i<7):(codeOf s i).length=1/\(codeOf s i).headD []∈ft:=by
 obtain⟨_,_,m,_⟩:=pF h;have b:=m i j;unfold dO at b;rw[T0 hi] at b;simp only[V6,decide_eq_true_eq] at b;obtain⟨_,e,r⟩:=b;unfold codeOf;refine⟨by rw[UX];exact e,?_⟩;generalize (ws ((split s 10).getD i ⟨#[]⟩)).tail=l at *
 match l,e with
 |[z],_=>exact r
theorem I1{s:WU}(h:(comp s).1=0)(i:Nat):(codeOf s i).length<=4000:=by
 obtain⟨m,_,_,_⟩:=pF h;unfold codeOf ws;have e:=(jq ((split s 10).getD i ⟨#[]⟩) 32).2;rw[UX,List.length_tail];by_cases b:i<(split s 10).length
 .have j:(split s 10).getD i ⟨#[]⟩∈split s 10:=by rw[Uo,Uk b];exact UU b
  have:=rR s 10 _ j;omega
 .have l:(split s 10).getD i ⟨#[]⟩=⟨#[]⟩:=by rw[Uo,Wr (by omega)];rfl
  rw[l] at e ⊢;have r:(⟨#[]⟩:WU).size=0:=rfl;omega
theorem sO{s:WU}(h:(comp s).1=0){i:Nat}(hi:i<5):Good (codeOf s i):=by
 have j:=xT h hi;have l:kh true (codeOf s i) 0=true:=by
  by_cases c:i=2
  .subst c;exact j
  .have e:(i == 2)=false:=Uh.2 c;rw[e] at j;exact uQ _ _ j
 obtain⟨_,_,_,m⟩:=pF h;have r:=m i hi;refine⟨l,?_,I1 h i⟩;rcases vY l with b|b
 .exact b.2
 .rw[r] at b;exact absurd b.1 (by decide)
theorem Mp{s:WU}(h:(comp s).1=0){i:Nat}(hi:i<5)(h2:i≠2):kh false (codeOf s i) 0=true:=by
 have b:=xT h hi;have e:(i == 2)=false:=Uh.2 h2;rw[e] at b;exact b
theorem MF{L:List Ln}{a b i:Nat}{x:Ed}(h:x∈RI L a b i):x.dj=a/\x.cR=b/\∃l∈L,x.n=l.n:=by
 unfold RI at h;obtain⟨l,e,rfl⟩:=Ve.1 h;exact⟨O,O,l,Wg (VE.1 e).1,O⟩
theorem Mh{L:List Ln}{a:Nat}{x:Ed}:∀b,x∈G6 L a b->x.dj=a/\x.cR<b/\∃l∈L,x.n=l.n:=by
 intro b
 induction b with
 |zero=>intro h;cases h
 |succ b m =>
  intro h;rcases Uq.1 h with h|h
  .obtain⟨e,r,j⟩:=m h;exact⟨e,by omega,j⟩
  .obtain⟨e,r,j⟩:=MF h;exact⟨e,by omega,j⟩
theorem Pv{L:List Ln}{n:Nat}{x:Ed}:∀k,x∈es L n k->x.dj<k/\x.cR<n/\∃l∈L,x.n=l.n:=by
 intro k
 induction k with
 |zero=>intro h;cases h
 |succ k j =>
  intro h;rcases Uq.1 h with h|h
  .obtain⟨m,b,e⟩:=j h;exact⟨by omega,b,e⟩
  .obtain⟨m,b,e⟩:=Mh n h;exact⟨by omega,b,e⟩
theorem Qt{L:List Ln}{x:Ln}:∀k,x∈vs L k->x∈L:=by
 intro k
 induction k with
 |zero=>intro h;cases h
 |succ k b =>
  intro h;rcases Uq.1 h with h|h
  .exact b h
  .unfold RL at h;exact Wg (VE.1 h).1
theorem G9{s:WU}{l:Ln}(h:oL s=some l): -1000000000<=l.n/\l.n<=1000000000:=by
 have r:∀e a b j,fin s e a b j=some l->-1000000000<=l.n/\l.n<=1000000000:=by
  intro e a b j m;unfold fin at m;split at m
  .cases u:number (s.extract (j+1) s.size).data.toList with
   |none=>rw[u] at m;cases m
   |some n =>
    rw[u] at m;injection m with m;subst m;exact xJ u
  .cases m
 unfold oL at h;split at h
 .cases h
 .split at h
  .split at h
   .cases h
   .exact r _ _ _ _ h
  .exact r _ _ _ _ h
theorem GI:∀(j:List WU) (k:Nat) (P Q:List (Option Ln)),(∀l,some l∈P->-1000000000<=l.n/\l.n<=1000000000)->eg j k P=.ok Q->∀l,some l∈Q->-1000000000<=l.n/\l.n<=1000000000:=by
 intro j
 induction j with
 |nil=>intro k P Q m h;injection h with h;subst h;exact m
 |cons x r u =>
  intro k P Q m h;simp only[eg] at h;split at h
  .cases h
  .rename_i p b;refine u _ _ _ ?_ h;intro l hl;rcases Uq.1 hl with hl|hl
   .exact m l hl
   .rw[Uz] at hl;subst hl;unfold r4 at b;split at b
    .cases b
    .cases e:oL x with
     |none=>rw[e] at b;cases b
     |some y =>
      rw[e] at b;injection b with b;injection b with b;subst b;exact G9 e
end Sp
section
theorem Al{s:WU}{L:List Sp.Ln}(h:Sp.dI s=.ok L):(Sp.vs L (Sp.nv L)).length=Sp.nv L/\Sp.nv L<=64/\∀l∈L,-1000000000<=l.n/\l.n<=1000000000:=by
 by_cases c:4000<s.size
 .rw[sP c] at h;cases h
 .cases hb:Sp.bad s with
  |some i=>rw[vS c hb] at h;cases h
  |none =>
   cases m:Sp.eg (Sp.split s 10) 0 [] with
   |error k=>rw[tn c hb m] at h;cases h
   |ok P =>
    cases u:Sp.gv P 0 [] with
    |error k=>rw[vQ c hb m u] at h;cases h
    |ok T =>
     cases he:Sp.ge T P 0 [] with
     |error k=>rw[yn c hb m u he] at h;cases h
     |ok b =>
      have F:=pI c hb m u he;have j:=F.spec;rw[h] at j;by_cases y:256<Sp.oM (Sp.dH P)\/64<Sp.nv (Sp.dH P)
      .rw[T0 y] at j;cases j
      .rw[TZ y] at j;injection j with j;subst j;refine⟨?_,by omega,λl r=>?_⟩
       .have z:=congrArg List.length (Sp.OC F.me F.Te);rw[UX] at z;rw[z,F.tl]
       .unfold Sp.dH at r;rw[List.mem_filterMap] at r;obtain⟨o,A,e⟩:=r;simp only[id] at e;subst e;exact Sp.GI _ _ _ _ (λl r=>by cases r) m l A
end
section
variable {w:WR}
theorem No{M:Nat}{x:List UInt8}{j:WS}(h:Fn w M x j): ∃F b,j=.func (.func F) #[] b:=by
 rcases h with ⟨B,n,_,e,_⟩|⟨k,_,_,e⟩
 .exact⟨_,_,e⟩
 .exact⟨_,_,e⟩
theorem FO{g:Nat}{L:List (List UInt8)}(h:fq w g L)(j:Sp.Good L): og w g L:=by
 refine⟨j,h.tX,h.lt,λi hi=>?_⟩;obtain⟨m,l,e⟩:=h.fn i hi;obtain⟨F,b,rfl⟩:=No e;exact⟨F,b,l,e⟩
theorem P6{s:WU}{P:Nat}{C:Array WS}{t:TypeId}(L:(Sp.comp s).1=0)(hb:w.heap[P]?=some (.cells C t (0,0)))(r:mE (Sp.split s 10) w P C 7): jJ w P (Sp.ik s):=by
 have e:∀j,w.cell? ⟨P,j,none⟩=C[j]?:=λj=>T5 w P j C t (0,0) hb
 have l:∀j,5<=j->j<7->mW w P (j*4+1) ((Sp.codeOf s j).headD []):=by
  intro j M A;obtain⟨k,B,u,G,y⟩:=r.comb j A M;obtain⟨p,n,m,b,z,q,F,N⟩:=r.shape j A;have I:(Sp.codeOf s j).headD []=Sp.ft[k]!:=by
   have:Sp.codeOf s j=[Sp.ft[k]!]:=y;rw[this];rfl
  refine⟨b,QT[k]!,(e _).trans N.c1,?_,?_,?_⟩
  .rw[I,<-My k B];exact(e _).trans u
  .exact(e _).trans G
  .rw[I];exact M1 k B
 refine⟨(Ug.1 hb).1,λi hi=>?_,l 5 (by omega) (by omega),l 6 (by omega) (by omega)⟩;obtain⟨g,m,u,G,y⟩:=r.code i (by omega) hi;exact⟨g,m,(e _).trans u,FO y (Sp.sO L hi)⟩
end
section
def PI(s:WU):List Int:=match Sp.dI s with | .error _=>[] | .ok L=>(Sp.vs L (Sp.nv L)).map (·.dj)
def jx(s:WU):List Int:=match Sp.dI s with | .error _=>[] | .ok L=>(Sp.vs L (Sp.nv L)).map (·.n)
def pO(s:WU):List Sp.Ed:=match Sp.dI s with | .error _=>[] | .ok L=>Sp.es L (Sp.nv L) (Sp.nv L)
def zH(s:WU):Int:=match Sp.dI s with | .error (a,_)=>a | .ok _=>0
def Tl(s:WU):Int:=match Sp.dI s with | .error (_,b)=>b | .ok _=>0
variable {s:WU}
theorem DS{w w':WR}{e:Ending}(h:ph s w e w'): WQ w w'/\∃v u x,e=.returned (WX #[dK v u x,Z Y (zH s),Z Y (Tl s)])/\
  w'.ownsRow w.heap.size 21 1 v (PI s).length ((PI s).map (Z .i32))/\w'.ownsRow w.heap.size 2 1 u (jx s).length ((jx s).map (Z Y))/\w'.ownsRow w.heap.size 162 3 x (pO s).length (dp (pO s)):=by
 obtain⟨m,j⟩:=h;refine⟨m,?_⟩;unfold PI jx pO zH Tl;cases l:Sp.dI s with
 |error r =>
  obtain⟨a,b⟩:=r;rw[l] at j;exact⟨_,_,_,j,Uw _ _ _ _,Uw _ _ _ _,Uw _ _ _ _⟩
 |ok L =>
  rw[l] at j;obtain⟨v,u,x,y,z,A,B⟩:=j;exact⟨v,u,x,y,by simpa using z,by simpa using A,B⟩
theorem DU(h:Small s): (PI s).length<=64/\(jx s).length<=64/\(pO s).length<=256:=by
 unfold PI jx pO;cases b:Sp.dI s with
 |error e=>simp
 |ok L =>
  have:=h L b;simp;omega
theorem NZ(s:WU):(PI s).length=(jx s).length:=by
 unfold PI jx;cases Sp.dI s with
 |error b=>rfl
 |ok L=>simp
theorem Lk(h:zH s=0): ∃L,Sp.dI s=.ok L:=by
 unfold zH at h;cases e:Sp.dI s with
 |ok L=>exact⟨L,rfl⟩
 |error l =>
  exfalso;obtain⟨a,b⟩:=l;rw[e] at h;simp only at h;subst h;by_cases c:4000<s.size
  .rw[sP c] at e;cases e
  .cases hb:Sp.bad s with
   |some i=>rw[vS c hb] at e;cases e
   |none =>
    cases hl:Sp.eg (Sp.split s 10) 0 [] with
    |error k=>rw[tn c hb hl] at e;cases e
    |ok P =>
     rw[pz c hb hl] at e;split at e
     .cases e
     .rename_i j;injection e with e;rw[e] at j;exact j O
theorem qE{g p:WU}(B:zH g=0)(e:(Sp.comp p).1=0)(j:Small g):Sp.iO (Sp.ik p) (pO g) (jx g).length/\∀x∈jx g,Sp.i64 x:=by
 obtain⟨L,m⟩:=Lk B;obtain⟨C,G,u⟩:=Al m;have y:jx g=(Sp.vs L (Sp.nv L)).map (·.n):=by unfold jx;rw[m]
 have F:pO g=Sp.es L (Sp.nv L) (Sp.nv L):=by unfold pO;rw[m]
 have z:(jx g).length=Sp.nv L:=by rw[y,UX,C]
 refine⟨⟨λi hi=>Sp.sO e hi,λi hi A=>Sp.Mp e hi A,(DU j).2.2,by omega,λx b=>?_,(Sp.xx e (by omega) (by omega)).2,(Sp.xx e (by omega) (by omega)).2⟩,λx b=>?_⟩
 .rw[F] at b;obtain⟨I,A,l,r,M⟩:=Sp.Pv _ b;have:=u l r;refine⟨by omega,by omega,?_⟩;unfold Sp.i64;omega
 .rw[y] at b;obtain⟨l,r,rfl⟩:=Ve.1 b;have:=u l (Sp.Qt _ r);unfold Sp.i64;omega
def kZ(g p:WU)(cY:Int):Int:=if zH g≠0 then zH g else if (Sp.comp p).1≠0 then (Sp.comp p).1 else if cY<0\/200<cY then 8 else 0
end
section
theorem N8{P:Sp.Pg}{Es:List Sp.Ed}{cap s:Nat}{c:Sp.Cfg}{b:Sp.nH}(j:Sp.CI P Es cap (cap+1-s) s c=b)(u:s<=cap){e:Int}(he:Sp.gA cap c s=e)(r:e≠0):(b.outcome:Int)=e/\b.step=s/\b.dt=0/\b.dA=c.val:=by
 rw[show cap+1-s=(cap-s)+1 by omega,Sp.CI] at j;unfold Sp.gA at he;by_cases l:Sp.quiet c s=true
 .rw[T0 l] at j he;rw[<-j,<-he];exact⟨O,O,O,O⟩
 .rw[TZ l] at j he;by_cases m:cap<=s
  .rw[T0 m] at j he;rw[<-j,<-he];exact⟨O,O,O,O⟩
  .rw[TZ m] at he;exact absurd he.symm r
theorem P1{P:Sp.Pg}{Es:List Sp.Ed}{cap s:Nat}{c:Sp.Cfg}{b:Sp.nH}(e:Sp.CI P Es cap (cap+1-s) s c=b)(m:s<=cap)(he:Sp.gA cap c s=0):s<cap/\(match Sp.lI P Es c s c.val.length with | .error i=>(⟨3,s,i,c.val⟩:Sp.nH) | .ok a=>Sp.CI P Es cap (cap+1-(s+1)) (s+1) (Sp.fh P c.val.length a))=b:=by
 rw[show cap+1-s=(cap-s)+1 by omega,Sp.CI] at e;unfold Sp.gA at he;by_cases j:Sp.quiet c s=true
 .rw[T0 j] at he;exact absurd he (by decide)
 .rw[TZ j] at e he;by_cases l:cap<=s
  .rw[T0 l] at he;exact absurd he (by decide)
  .rw[TZ l] at e;refine⟨by omega,?_⟩;rw[show cap+1-(s+1)=cap-s by omega];exact e
theorem AI(cap:Nat)(c:Sp.Cfg)(s:Nat):0<=Sp.gA cap c s/\Sp.gA cap c s<=2:=by
 unfold Sp.gA;split <;> (try split) <;> omega
end
section
theorem tI{B:Nat}{w W:WR}{R:Nat}(h:Below B w W)(e:B<=R)(a b c d:WS):Below B w (j6 W R a b c d):=(((h.setCell (p:=⟨R,0,none⟩) e _).setCell (p:=⟨R,1,none⟩) e _).setCell (p:=⟨R,2,none⟩) e _).setCell (p:=⟨R,3,none⟩) e _
def fL(g p:WU)(cY:Int):Sp.nH:=if kZ g p cY=0 then Sp.GL (Sp.ik p) (jx g) (pO g) cY.toNat else ⟨0,0,0,[]⟩
end
section
def fw:WU:=⟨#[110,101,119,58,32,118,97,108,117,101,32,105,110,32,109,105,110,10,103,111,58,32,118,97,108,117,101,32,49,48,48,48,48,48,48,48,48,48,32,60,32,115,116,101,112,32,48,32,61,32,118,97,108,117,101,32,111,108,100,32,60,32,109,97,120,32,42,10,109,115,103,58,32,118,97,108,117,101,32,119,101,105,103,104,116,32,43,10,104,97,108,116,58,32,49,10,103,105,118,101,58,32,49,10,98,121,58,32,109,105,110,10,97,108,108,58,32,115,117,109]⟩
theorem Gw:fw.size=120:=by kernel_rfl
theorem Du:(Sp.comp fw).1=0:=by kernel_rfl
theorem Ge(w:WR):WT prog 19 #[H ⟨#[114,101,97,99,104]⟩] w λe b=>e=.returned (WX #[H fw,Z Y 0])/\b=w:=by
 go_enter func19,ntmps19;go_wp2;exact T8 (v := WX #[H fw,Z Y 0]) (by simp[results,results19,go_sem];rfl) O ⟨O,O⟩
end
end Go.Proofs.YtgkkdpegcieakaaGreatDoor
