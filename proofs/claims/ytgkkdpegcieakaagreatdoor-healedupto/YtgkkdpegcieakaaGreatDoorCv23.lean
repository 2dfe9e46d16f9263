import Derived.Test.YtgkkdpegcieakaaGreatDoorCv22
import Derived.Test.YtgkkdpegcieakaaGreatDoorCv17
set_option linter.all false
set_option maxRecDepth 100000
set_option maxHeartbeats 0
namespace Go.Proofs.YtgkkdpegcieakaaGreatDoor
open Go.Proofs.Tryz
open Value renaming int→Z,string→H,tuple→Wb
open IntKind renaming i64→Y
open Go renaming World→V5,Value→V6,Calls→V7
open Go.RowKit
namespace Sp
open Go Go.RowKit
theorem xh{p:Nat->Bool}{n:Nat}(h:first p n=none):∀j,j<n->p j=false:=by
 intro j b;unfold first at h
 rw[List.find?_eq_none] at h;have:=h j (Va.2 b);simpa using this
def ir(s:V8):Pg:=⟨codeOf s,(codeOf s 5).headD [],(codeOf s 6).headD []⟩
theorem pD{s:V8}(h:(comp s).1=0):s.size<=2000/\(split s 10).length=7/\(∀j,j<7->dQ j ((split s 10).getD j ⟨#[]⟩)=true)/\∀j,j<5->keeps (codeOf s j)=true:=by
 unfold comp at h;by_cases e:2000<s.size
 .rw[Tg e] at h;exact absurd h (by decide)
 .rw[Tf e] at h;cases b:first (λi=>!dQ i ((split s 10).getD i ⟨#[]⟩)) (min 7 (split s 10).length) with
  |some i=>rw[b] at h;exact absurd h (by simp)
  |none =>
   rw[b] at h;simp only at h;by_cases l:7<(split s 10).length
   .rw[Tg l] at h;exact absurd h (by decide)
   .rw[Tf l] at h;by_cases m:(split s 10).length<7
    .rw[Tg m] at h;exact absurd h (by simp)
    .rw[Tf m] at h;cases r:first (λi=>decide (zW (codeOf s i) (codeOf s i).length 0 (codeOf s i).length 0≠some 1)) 5 with
     |some i=>rw[r] at h;exact absurd h (by simp)
     |none =>
      refine⟨by omega,by omega,λj u=>?_,λj u=>?_⟩
      .have:=xh b j (by omega);simpa using this
      .have:=xh r j u;unfold keeps;simpa using this
theorem xK{s:V8}(h:(comp s).1=0){i:Nat}(hi:i<5):kI (i == 2) (codeOf s i) 0=true:=by
 obtain⟨_,_,e,_⟩:=pD h;have b:=e i (by omega);unfold dQ at b;rw[Tf (by omega)] at b;simp only[Vl] at b;exact b.2.1
theorem yj{s:V8}(h:(comp s).1=0){i:Nat}(hi:5<=i)(j:i<7):(codeOf s i).length=1/\(codeOf s i).headD []∈fp:=by
 obtain⟨_,_,m,_⟩:=pD h;have b:=m i j;unfold dQ at b;rw[Tg hi] at b;simp only[Vl,decide_eq_true_eq] at b;obtain⟨_,e,r⟩:=b;unfold codeOf;refine⟨by rw[Ue];exact e,?_⟩;generalize (ws ((split s 10).getD i ⟨#[]⟩)).tail=l at *
 match l,e with
 |[z],_=>exact r
theorem KD{s:V8}(h:(comp s).1=0)(i:Nat):(codeOf s i).length<=4000:=by
 obtain⟨m,_,_,_⟩:=pD h;unfold codeOf ws;have e:=(jo ((split s 10).getD i ⟨#[]⟩) 32).2;rw[Ue,List.length_tail];by_cases b:i<(split s 10).length
 .have j:(split s 10).getD i ⟨#[]⟩∈split s 10:=by rw[Ty,Tw b];exact Uc b
  have:=qW s 10 _ j;omega
 .have l:(split s 10).getD i ⟨#[]⟩=⟨#[]⟩:=by rw[Ty,VI (by omega)];rfl
  rw[l] at e ⊢;have r:(⟨#[]⟩:V8).size=0:=rfl;omega
theorem sU{s:V8}(h:(comp s).1=0){i:Nat}(hi:i<5):Good (codeOf s i):=by
 have j:=xK h hi;have l:kI true (codeOf s i) 0=true:=by
  by_cases c:i=2
  .subst c;exact j
  .have e:(i == 2)=false:=Tt.2 c;rw[e] at j;exact uL _ _ j
 obtain⟨_,_,_,m⟩:=pD h;have r:=m i hi;refine⟨l,?_,KD h i⟩;rcases vW l with b|b
 .exact b.2
 .rw[r] at b;exact absurd b.1 (by decide)
theorem Nx{s:V8}(h:(comp s).1=0){i:Nat}(hi:i<5)(h2:i≠2):kI false (codeOf s i) 0=true:=by
 have b:=xK h hi;have e:(i == 2)=false:=Tt.2 h2;rw[e] at b;exact b
theorem LJ{L:List Ln}{a b i:Nat}{x:Ed}(h:x∈QH L a b i):x.dp=a/\x.cS=b/\∃l∈L,x.n=l.n:=by
 unfold QH at h;obtain⟨l,e,rfl⟩:=Uu.1 h;exact⟨O,O,l,Vx (UU.1 e).1,O⟩
theorem KG{L:List Ln}{a:Nat}{x:Ed}:∀b,x∈Gt L a b->x.dp=a/\x.cS<b/\∃l∈L,x.n=l.n:=by
 intro b
 induction b with
 |zero=>intro h;cases h
 |succ b m =>
  intro h;rcases TB.1 h with h|h
  .obtain⟨e,r,j⟩:=m h;exact⟨e,by omega,j⟩
  .obtain⟨e,r,j⟩:=LJ h;exact⟨e,by omega,j⟩
theorem Qo{L:List Ln}{n:Nat}{x:Ed}:∀k,x∈es L n k->x.dp<k/\x.cS<n/\∃l∈L,x.n=l.n:=by
 intro k
 induction k with
 |zero=>intro h;cases h
 |succ k j =>
  intro h;rcases TB.1 h with h|h
  .obtain⟨m,b,e⟩:=j h;exact⟨by omega,b,e⟩
  .obtain⟨m,b,e⟩:=KG n h;exact⟨by omega,b,e⟩
theorem Pl{L:List Ln}{x:Ln}:∀k,x∈vs L k->x∈L:=by
 intro k
 induction k with
 |zero=>intro h;cases h
 |succ k b =>
  intro h;rcases TB.1 h with h|h
  .exact b h
  .unfold QB at h;exact Vx (UU.1 h).1
theorem Hc{s:V8}{l:Ln}(h:oT s=some l): -1000000000<=l.n/\l.n<=1000000000:=by
 have r:∀e a b j,fin s e a b j=some l->-1000000000<=l.n/\l.n<=1000000000:=by
  intro e a b j m;unfold fin at m;split at m
  .cases u:number (s.extract (j+1) s.size).data.toList with
   |none=>rw[u] at m;cases m
   |some n =>
    rw[u] at m;injection m with m;subst m;exact xL u
  .cases m
 unfold oT at h;split at h
 .cases h
 .split at h
  .split at h
   .cases h
   .exact r _ _ _ _ h
  .exact r _ _ _ _ h
theorem GW:∀(j:List V8) (k:Nat) (P Q:List (Option Ln)),(∀l,some l∈P->-1000000000<=l.n/\l.n<=1000000000)->eo j k P=.ok Q->∀l,some l∈Q->-1000000000<=l.n/\l.n<=1000000000:=by
 intro j
 induction j with
 |nil=>intro k P Q m h;injection h with h;subst h;exact m
 |cons x r u =>
  intro k P Q m h;simp only[eo] at h;split at h
  .cases h
  .rename_i p b;refine u _ _ _ ?_ h;intro l hl;rcases TB.1 hl with hl|hl
   .exact m l hl
   .rw[TL] at hl;subst hl;unfold rq at b;split at b
    .cases b
    .cases e:oT x with
     |none=>rw[e] at b;cases b
     |some y =>
      rw[e] at b;injection b with b;injection b with b;subst b;exact Hc e
end Sp
section
theorem An{s:V8}{L:List Sp.Ln}(h:Sp.dI s=.ok L):(Sp.vs L (Sp.nv L)).length=Sp.nv L/\Sp.nv L<=64/\∀l∈L,-1000000000<=l.n/\l.n<=1000000000:=by
 by_cases c:4000<s.size
 .rw[sW c] at h;cases h
 .cases hb:Sp.bad s with
  |some i=>rw[wu c hb] at h;cases h
  |none =>
   cases m:Sp.eo (Sp.split s 10) 0 [] with
   |error k=>rw[s9 c hb m] at h;cases h
   |ok P =>
    cases u:Sp.gv P 0 [] with
    |error k=>rw[vJ c hb m u] at h;cases h
    |ok T =>
     cases he:Sp.ge T P 0 [] with
     |error k=>rw[yi c hb m u he] at h;cases h
     |ok b =>
      have F:=pE c hb m u he;have j:=F.spec;rw[h] at j;by_cases y:256<Sp.o6 (Sp.dH P)\/64<Sp.nv (Sp.dH P)
      .rw[Tg y] at j;cases j
      .rw[Tf y] at j;injection j with j;subst j;refine⟨?_,by omega,λl r=>?_⟩
       .have z:=congrArg List.length (Sp.NW F.me F.SE);rw[Ue] at z;rw[z,F.tl]
       .unfold Sp.dH at r;rw[List.mem_filterMap] at r;obtain⟨o,A,e⟩:=r;simp only[id] at e;subst e;exact Sp.GW _ _ _ _ (λl r=>by cases r) m l A
end
section
variable {w:V5}
theorem LZ{M:Nat}{x:List UInt8}{j:V6}(h:Fn w M x j): ∃F b,j=.func (.func F) #[] b:=by
 rcases h with ⟨B,n,_,e,_⟩|⟨k,_,_,e⟩
 .exact⟨_,_,e⟩
 .exact⟨_,_,e⟩
theorem ES{g:Nat}{L:List (List UInt8)}(h:ft w g L)(j:Sp.Good L): oj w g L:=by
 refine⟨j,h.tX,h.lt,λi hi=>?_⟩;obtain⟨m,l,e⟩:=h.fn i hi;obtain⟨F,b,rfl⟩:=LZ e;exact⟨F,b,l,e⟩
theorem PU{s:V8}{P:Nat}{C:Array V6}{t:TypeId}(K:(Sp.comp s).1=0)(hb:w.heap[P]?=some (.cells C t (0,0)))(r:mG (Sp.split s 10) w P C 7): jH w P (Sp.ir s):=by
 have e:∀j,w.cell? ⟨P,j,none⟩=C[j]?:=λj=>Ti w P j C t (0,0) hb
 have l:∀j,5<=j->j<7->m8 w P (j*4+1) ((Sp.codeOf s j).headD []):=by
  intro j L A;obtain⟨k,B,u,G,y⟩:=r.comb j A L;obtain⟨p,n,m,b,z,q,F,M⟩:=r.shape j A;have I:(Sp.codeOf s j).headD []=Sp.fp[k]!:=by
   have:Sp.codeOf s j=[Sp.fp[k]!]:=y;rw[this];rfl
  refine⟨b,PH[k]!,(e _).trans M.c1,?_,?_,?_⟩
  .rw[I,<-MY k B];exact(e _).trans u
  .exact(e _).trans G
  .rw[I];exact Mq k B
 refine⟨(Ts.1 hb).1,λi hi=>?_,l 5 (by omega) (by omega),l 6 (by omega) (by omega)⟩;obtain⟨g,m,u,G,y⟩:=r.code i (by omega) hi;exact⟨g,m,(e _).trans u,ES y (Sp.sU K hi)⟩
end
section
def Pz(s:V8):List Int:=match Sp.dI s with | .error _=>[] | .ok L=>(Sp.vs L (Sp.nv L)).map (·.dp)
def jl(s:V8):List Int:=match Sp.dI s with | .error _=>[] | .ok L=>(Sp.vs L (Sp.nv L)).map (·.n)
def pP(s:V8):List Sp.Ed:=match Sp.dI s with | .error _=>[] | .ok L=>Sp.es L (Sp.nv L) (Sp.nv L)
def yt(s:V8):Int:=match Sp.dI s with | .error (a,_)=>a | .ok _=>0
def Su(s:V8):Int:=match Sp.dI s with | .error (_,b)=>b | .ok _=>0
variable {s:V8}
theorem CY{w w':V5}{e:Ending}(h:pI s w e w'): V4 w w'/\∃v u x,e=.returned (Wb #[dL v u x,Z Y (yt s),Z Y (Su s)])/\
  w'.ownsRow w.heap.size 21 1 v (Pz s).length ((Pz s).map (Z .i32))/\w'.ownsRow w.heap.size 2 1 u (jl s).length ((jl s).map (Z Y))/\w'.ownsRow w.heap.size 162 3 x (pP s).length (dq (pP s)):=by
 obtain⟨m,j⟩:=h;refine⟨m,?_⟩;unfold Pz jl pP yt Su;cases l:Sp.dI s with
 |error r =>
  obtain⟨a,b⟩:=r;rw[l] at j;exact⟨_,_,_,j,TH _ _ _ _,TH _ _ _ _,TH _ _ _ _⟩
 |ok L =>
  rw[l] at j;obtain⟨v,u,x,y,z,A,B⟩:=j;exact⟨v,u,x,y,by simpa using z,by simpa using A,B⟩
theorem DS(h:Small s): (Pz s).length<=64/\(jl s).length<=64/\(pP s).length<=256:=by
 unfold Pz jl pP;cases b:Sp.dI s with
 |error e=>simp
 |ok L =>
  have:=h L b;simp;omega
theorem M1(s:V8):(Pz s).length=(jl s).length:=by
 unfold Pz jl;cases Sp.dI s with
 |error b=>rfl
 |ok L=>simp
theorem Jm(h:yt s=0): ∃L,Sp.dI s=.ok L:=by
 unfold yt at h;cases e:Sp.dI s with
 |ok L=>exact⟨L,rfl⟩
 |error l =>
  exfalso;obtain⟨a,b⟩:=l;rw[e] at h;simp only at h;subst h;by_cases c:4000<s.size
  .rw[sW c] at e;cases e
  .cases hb:Sp.bad s with
   |some i=>rw[wu c hb] at e;cases e
   |none =>
    cases hl:Sp.eo (Sp.split s 10) 0 [] with
    |error k=>rw[s9 c hb hl] at e;cases e
    |ok P =>
     rw[pr c hb hl] at e;split at e
     .cases e
     .rename_i j;injection e with e;rw[e] at j;exact j O
theorem qG{g p:V8}(B:yt g=0)(e:(Sp.comp p).1=0)(j:Small g):Sp.iM (Sp.ir p) (pP g) (jl g).length/\∀x∈jl g,Sp.i64 x:=by
 obtain⟨L,m⟩:=Jm B;obtain⟨C,G,u⟩:=An m;have y:jl g=(Sp.vs L (Sp.nv L)).map (·.n):=by unfold jl;rw[m]
 have F:pP g=Sp.es L (Sp.nv L) (Sp.nv L):=by unfold pP;rw[m]
 have z:(jl g).length=Sp.nv L:=by rw[y,Ue,C]
 refine⟨⟨λi hi=>Sp.sU e hi,λi hi A=>Sp.Nx e hi A,(DS j).2.2,by omega,λx b=>?_,(Sp.yj e (by omega) (by omega)).2,(Sp.yj e (by omega) (by omega)).2⟩,λx b=>?_⟩
 .rw[F] at b;obtain⟨I,A,l,r,K⟩:=Sp.Qo _ b;have:=u l r;refine⟨by omega,by omega,?_⟩;unfold Sp.i64;omega
 .rw[y] at b;obtain⟨l,r,rfl⟩:=Uu.1 b;have:=u l (Sp.Pl _ r);unfold Sp.i64;omega
def j5(g p:V8)(cZ:Int):Int:=if yt g≠0 then yt g else if (Sp.comp p).1≠0 then (Sp.comp p).1 else if cZ<0\/200<cZ then 8 else 0
end
theorem Na{P:Sp.Pg}{Es:List Sp.Ed}{cap s:Nat}{c:Sp.Cfg}{b:Sp.nG}(j:Sp.Cu P Es cap (cap+1-s) s c=b)(u:s<=cap){e:Int}(he:Sp.gy cap c s=e)(r:e≠0):(b.outcome:Int)=e/\b.step=s/\b.dG=0/\b.dJ=c.val:=by
 rw[show cap+1-s=(cap-s)+1 by omega,Sp.Cu] at j;unfold Sp.gy at he;by_cases l:Sp.quiet c s=true
 .rw[Tg l] at j he;rw[<-j,<-he];exact⟨O,O,O,O⟩
 .rw[Tf l] at j he;by_cases m:cap<=s
  .rw[Tg m] at j he;rw[<-j,<-he];exact⟨O,O,O,O⟩
  .rw[Tf m] at he;exact absurd he.symm r
theorem Pp{P:Sp.Pg}{Es:List Sp.Ed}{cap s:Nat}{c:Sp.Cfg}{b:Sp.nG}(e:Sp.Cu P Es cap (cap+1-s) s c=b)(m:s<=cap)(he:Sp.gy cap c s=0):s<cap/\(match Sp.lK P Es c s c.val.length with | .error i=>(⟨3,s,i,c.val⟩:Sp.nG) | .ok a=>Sp.Cu P Es cap (cap+1-(s+1)) (s+1) (Sp.fi P c.val.length a))=b:=by
 rw[show cap+1-s=(cap-s)+1 by omega,Sp.Cu] at e;unfold Sp.gy at he;by_cases j:Sp.quiet c s=true
 .rw[Tg j] at he;exact absurd he (by decide)
 .rw[Tf j] at e he;by_cases l:cap<=s
  .rw[Tg l] at he;exact absurd he (by decide)
  .rw[Tf l] at e;refine⟨by omega,?_⟩;rw[show cap+1-(s+1)=cap-s by omega];exact e
theorem Bd(cap:Nat)(c:Sp.Cfg)(s:Nat):0<=Sp.gy cap c s/\Sp.gy cap c s<=2:=by
 unfold Sp.gy;split <;> (try split) <;> omega
theorem tM{B:Nat}{w W:V5}{R:Nat}(h:Below B w W)(e:B<=R)(a b c d:V6):Below B w (j9 W R a b c d):=(((h.setCell (p:=⟨R,0,none⟩) e _).setCell (p:=⟨R,1,none⟩) e _).setCell (p:=⟨R,2,none⟩) e _).setCell (p:=⟨R,3,none⟩) e _
def fL(g p:V8)(cZ:Int):Sp.nG:=if j5 g p cZ=0 then Sp.FV (Sp.ir p) (jl g) (pP g) cZ.toNat else ⟨0,0,0,[]⟩
def fq:V8:=⟨#[110,101,119,58,32,118,97,108,117,101,32,105,110,32,109,105,110,10,103,111,58,32,118,97,108,117,101,32,49,48,48,48,48,48,48,48,48,48,32,60,32,115,116,101,112,32,48,32,61,32,118,97,108,117,101,32,111,108,100,32,60,32,109,97,120,32,42,10,109,115,103,58,32,118,97,108,117,101,32,119,101,105,103,104,116,32,43,10,104,97,108,116,58,32,49,10,103,105,118,101,58,32,49,10,98,121,58,32,109,105,110,10,97,108,108,58,32,115,117,109]⟩
theorem G3:fq.size=120:=by kernel_rfl
theorem CV:(Sp.comp fq).1=0:=by kernel_rfl
theorem Gu(w:V5):V7 prog 19 #[H ⟨#[114,101,97,99,104]⟩] w λe b=>e=.returned (Wb #[H fq,Z Y 0])/\b=w:=by
 go_enter func19,ntmps19;go_wp2;exact Tj (v := Wb #[H fq,Z Y 0]) (by simp[results,results19,go_sem];rfl) O ⟨O,O⟩
end Go.Proofs.YtgkkdpegcieakaaGreatDoor
