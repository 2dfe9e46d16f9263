import Derived.Test.YtgkkdpegcieakaaGreatDoorCz17
set_option linter.unusedVariables false
set_option linter.unusedSimpArgs false
set_option maxRecDepth 100000
set_option maxHeartbeats 16000000
namespace Go.Proofs.YtgkkdpegcieakaaGreatDoor
open Go.Proofs.Tryz
open Value renaming int→Z
open IntKind renaming i64→Y
open Go renaming World→TJ,Value→TK,Calls→TL
namespace Pk
open Go.RowKit Go.Shelf
open Sd (Tb)
open Dk
attribute [local go_sem] Oper.semAt_some
theorem rR{N:Nat}{e:Nat->Prop}{w:TJ}(j:N<=w.heap.size)(W:TJ)(l:Nat)(o b:Obj)(m:w.heap.size<=l)(h:W.heap[l]?=some o)(_:o.isCells=false)(_:o.isWalk=false):fI N e W (W.putObj l b):=fI.putObj W l o b (by omega) h
theorem JY{β : Type}(B k:Nat)(f : β->Obj)(m:∀s,(f s).isCells=true):OwnFrom B (λ(s : β) W=>W.heap[k]?=some (f s)):=λs W A r b u y=>by
 have b:W.heap[k]?=some (f s):=b;have z:k<W.heap.size:=(cB.1 b).1;refine(u.block k z (λe=>?_)).trans b;obtain⟨_,o,j,l⟩:=y k e.symm;rw[b] at j;have:f s=o:=iP j;rw[<-this,m s] at l;cases l
def used(F:Nat->Fl)(T:Sd.Tb):Nat:=(T.map λp=>(F p.2).bytes.size).sum
theorem DF(F:Nat->Fl){T:Sd.Tb}(b:List { x:TM × Nat // x∈T })(hu:∀p∈T,(F p.2).bytes.size<=4194304):used F (b.map (·.1))<=b.length*4194304:=by
 induction b with
 |nil=>simp[used]
 |cons p t e =>
  have h:=hu p.1 p.2;simp only[used,wj,RZ,cD,Nat.succ_mul] at e ⊢;omega
theorem Bj(D:Nat)(d:Dv)(w:TJ)(h:lB w D d)(hl:d.names.length<=1000000000)(hu:∀p∈d.names,(d.F p.2).bytes.size<=4194304):TL prog 33 #[.pointer (some ⟨D,0,none⟩)] w λe w'=>e=.returned (Z Y (used d.F d.names))/\TI w w':=by
 refine(FY (n:=5)).1 ?_;refine callsIn_of_wp_marks func33 rfl trivial ?_ rfl;simp only[ntmps33,GK,cD,Bb,Nat.reduceAdd,Nat.reduceSub,Jx,JK,Kk,KA,sj,mf];obtain⟨p,J,L,B⟩:=Dk.dM (h.rn);have HD:=cP h;have Q:D<w.heap.size:=cS h.blk
 gi_wp2_with (refine⟨trivial,?_⟩;gi_at_call 55;refine(Dk.qu _ _ trivial rfl _ _).mono ?_;rintro e w' ⟨rfl,rfl⟩)
 obtain⟨C,z⟩:∃C,((w.alloc (.cells #[Z Y 0] 3)).alloc (.cells #[.pointer (some ⟨D,1,none⟩)] 131))=C:=⟨_,rfl⟩
 have ad:C.heap.size=w.heap.size+2:=by rw[<-z];simp
 have E:TI w C:=by rw[<-z];exact((cj _ w).alloc TG _).alloc (by simp) _
 have R:C.heap[w.heap.size]?=some (.cells #[Z Y 0] 3 (0,0)):=by
  rw[<-z,cN _ _ _ (by simp)];exact G1 w _
 have S:C.cell? ⟨w.heap.size+1,0,none⟩=some (.pointer (some ⟨D,1,none⟩)):=by
  have:=G1 (w.alloc (.cells #[Z Y 0] 3)) (.cells #[.pointer (some ⟨D,1,none⟩)] 131);rw[ee,z] at this;simp[World.cell?,this]
 have T:C.cell? ⟨D,1,none⟩=some (.slice p d.names.length J):=by
  rw[E.cell (p:=⟨D,1,none⟩) Q,cn w D 1 _ _ _ h.blk,<-L];rfl
 have V:∀j (hj:j<d.names.length),∃g,p=some ⟨g,0,none⟩/\g<w.heap.size/\True/\C.cell? ⟨g,j*2,none⟩=some (.string d.names[j].1)/\C.cell? ⟨g,j*2+1,none⟩=some (eC d.names[j].2):=λj hj=>by
  obtain⟨g,e,c0,c1⟩:=B j hj;have X:=cE w _ c0;exact⟨g,e,X,trivial,(E.cell (p:=⟨g,j*2,none⟩) X).trans c0,(E.cell (p:=⟨g,j*2+1,none⟩) X).trans c1⟩
 rw[z];clear z B L h;refine wpIn_rangeFunc_ownG rfl (by omega) (gf:=96) (lb := #[.pointer (some ⟨w.heap.size+1,0,none⟩)]) rfl trivial (enters_of func96 (by kernel_rfl) rfl)
  (Dk.kG _ _ trivial rfl (by omega) (w.heap.size+1) D 1 w.heap.size (λ_=>True) p J d.names hl C (by omega) (by omega) (by omega) S T V) (λh k=>h.trans k) (rR (by omega)) (cj _ _) (λ_=>rfl)
  (λb W=>W.heap[w.heap.size]?=some (.cells #[Z Y (used d.F (b.map (·.1)))] 3 (0,0))/\Below w.heap.size C W)
  (λ_ _ _=>False)
  (OwnFrom.and (JY _ _ (λb:List { x:TM × Nat // x∈d.names }=>Obj.cells #[Z Y (used d.F (b.map (·.1)))] 3 (0,0)) (λ_=>rfl)) (ownFrom_below (by omega) (by omega)))
  (λ_ _ _ _ _ hs _ _=>hs)
  ⟨R,cj _ _⟩
  (λy=>{ tmps := #[.pointer (some ⟨D,0,none⟩),undef,Z Y 0,.pointer (some ⟨w.heap.size,0,none⟩),undef,eC y.1.2,.pointer (some ⟨D,0,none⟩),.pointer (some ⟨D,0,none⟩),.pointer (some ⟨D,1,none⟩),.func (.func 96) #[] #[.pointer (some ⟨w.heap.size+1,0,none⟩)],.string y.1.1,eC y.1.2,undef,undef,undef,undef,undef,undef,undef,undef],defers:=[] }) ?assign ?body ?done ?stop
 case assign =>
  intro l y W K q
  gi_wp2
  exact q
 case body =>
  rintro l' b ⟨⟨t,u⟩,s⟩ W ⟨m,G⟩ ae;have hd:=(cO HD).below (E.trans G);have H:=hd.files u (hd.FG (t,u) s);obtain⟨pb,cb,M⟩:=jS H.row;have I:=H.blk;rw[M] at I;have k0:W.cell? ⟨u,0,none⟩=some (.slice pb (d.F u).bytes.size cb):=by rw[cn W _ 0 _ _ _ I];rfl
  have u0:W.cell? ⟨w.heap.size,0,none⟩=some (Z Y (used d.F (b.map (·.1)))):=by rw[cn W _ 0 _ _ _ m];rfl
  have uf:W.frozen? ⟨w.heap.size,0,none⟩=false:=by simp[World.frozen?,m]
  have N:=hu (t,u) s;have o:used d.F (b.map (·.1))<=4194304000000000:=cx (DF d.F b hu) (cx (Tj 4194304 (show b.length<=1000000000 by omega)) (by decide));have r:used d.F ((b++[(⟨(t,u),s⟩:{ x:TM × Nat // x∈d.names })]).map (·.1))=used d.F (b.map (·.1))+(d.F u).bytes.size:=by simp[used]
  generalize used d.F (b.map (·.1))=U at m u0 o r;have N:(d.F u).bytes.size<=4194304:=N;have HN:=cP r;have HU:=cP m;have HB:=cP G;clear hd H I M r m G;unfold eC
  gi_wp2
  gi_region
  all_goals
   have ew:IntKind.i64.wrap ((U:Int)+((d.F u).bytes.size:Int))=((U+(d.F u).bytes.size:Nat):Int):=by rw[fp];omega
   rw[ew];have aa:KeepsOthers W (W.setCell ⟨w.heap.size,0,none⟩ (Z Y ((U+(d.F u).bytes.size:Nat):Int))).drew:=⟨(KeepsOthers.setCell W _ _).1,(KeepsOthers.setCell W _ _).2⟩
   have ab:(W.setCell ⟨w.heap.size,0,none⟩ (Z Y ((U+(d.F u).bytes.size:Nat):Int))).drew.heap[w.heap.size]?=some (.cells #[Z Y ((U+(d.F u).bytes.size:Nat):Int)] 3 (0,0)):=cA W w.heap.size 0 _ _ _ (cO HU);have A:Below w.heap.size W (W.setCell ⟨w.heap.size,0,none⟩ (Z Y ((U+(d.F u).bytes.size:Nat):Int))).drew:=((cj w.heap.size W).setCell (p:=⟨w.heap.size,0,none⟩) TG _).drew;exact⟨aa.from _,⟨A.os,A.tape,A.output,A.size,λk hk _=>A.block k hk⟩,by rw[cO HN];exact ab,(cO HB).trans A⟩
 case done =>
  rintro Dd ys W af O ⟨m,G⟩ q;have m:W.heap[w.heap.size]?=some (.cells #[Z Y (used d.F d.names)] 3 (0,0)):=by
   rw[O,List.attach_map_subtype_val] at m;exact m
  have u0:W.cell? ⟨w.heap.size,0,none⟩=some (Z Y (used d.F d.names)):=by rw[cn W _ 0 _ _ _ m];rfl
  have P:=E.trans G;clear O m
  gi_wp2
  refine⟨by simp,.inl ⟨_,_,rfl,run_takeDeferred q,?_⟩⟩;refine⟨Z Y (used d.F d.names),by simp[results,results33,go_sem],rfl,?_⟩;exact P.grown (Tl W Dd _) P.size (λk hk=>by cases hk;omega)
 case stop =>
  intro D' c b W _ _ h;exact h.elim
end Pk
namespace Pk
open Go.RowKit Go.Shelf
open Sd (Tb)
open Dk
theorem info_u8:(prog.info? 5).map (λi=>(i.zero,i.size,i.bytes))=some (some (Z .u8 0),1,1):=by kernel_rfl
theorem CY{P:Program}(w:TJ)(base:Nat)(t u D e:TypeId)(i:TypeInfo)(ht:P.underlying t=some (.slice e))(hu:P.underlying u=some .string)(hi:P.info? e=some i)(H:i.zero=some (Z .u8 0))(b:i.size=1)(y:i.bytes=1)(v:TK)(n:Nat)(C:List TK)(l:w.ownsRow base e 1 v n C)(s:TM)(I:n+s.size<=140737488355328)(z:base<=w.heap.size):∃p c E,(Builtin.append_ #[t,u] D #[v,.string s]).run P w=.ok (.slice p (n+s.size) c) E/\E.ownsRow base e 1 (.slice p (n+s.size) c) (n+s.size) (C++Lib.strCells s)/\w.grownBy E v.ownBlock/\
   ((Value.slice p (n+s.size) c).ownBlock=v.ownBlock\/(Value.slice p (n+s.size) c).ownBlock=some w.heap.size):=by
 obtain⟨V,E,A,N,Q,F⟩:=Lib.run_append_own_string (P:=P) w base t u D e i ht hu hi H b y v n C l s (by unfold maxLen;omega) I z;obtain⟨p,c,rfl⟩:=jS N;refine⟨p,c,E,A,N,Q,?_⟩;have J:C.length=n:=by simpa using l.1
 rcases l.2 with ⟨rfl,rfl⟩|⟨g,r,G,rfl,R,K,S,T,L,M⟩
 .by_cases U:s.size=0
  .have:=F.2 ⟨rfl,U⟩;rw[this];exact Or.inl rfl
  .have m:=run_append_nil_string (P:=P) w t u D e i (Z .u8 0) ht hu hi H s (by omega) (by omega) (by rw[y];omega);rw[m] at A;injection A with e1 e2;rw[<-e1];exact Or.inr rfl
 .by_cases B:n+s.size<=r
  .have O:G.size=r:=by simpa using L
   have m:=Lib.run_append_room_string (P:=P) w t u D e i ht hu hi b g n r G K s B (by omega);rw[m] at A;injection A with e1 e2;rw[<-e1];exact Or.inl rfl
  .have holds:∀j u,C[j]?=some u->w.cell? ((⟨g,0,none⟩:Addr).add j)=some u:=l.cells (g:=g) rfl;have m:=Lib.run_append_grow_string (P:=P) w t u D e i (Z .u8 0) ht hu hi H ⟨g,0,none⟩ n r C (by rw[b];simpa using J) holds s (by omega) (by omega) (by rw[y];exact growslice_fits (by omega) (by omega));rw[m] at A;injection A with e1 e2;rw[<-e1];exact Or.inr rfl
theorem wD(a b:TM):byteCells (a++b)=byteCells a++Lib.strCells b:=by
 unfold byteCells Lib.strCells;rw[G3,QU,Bg]
def Dv.Oa(d:Dv)(y t:TM):Int:=if d.pO y=0 then (if d.q<(used d.F d.names:Int)+t.size then 12 else 0) else d.pO y
def Dv.Ki(d:Dv)(y t:TM)(b:Dv):Prop:=if d.Oa y t=0 then ∃f e,Sd.jB d.names y=some f/\b=d.dU.nD f ⟨(d.F f).bytes++t,(d.F f).safe⟩ e else b=d.dU
theorem BU(D:Nat)(d:Dv)(y t:TM)(w:TJ)(h:lB w D d)(hl:d.names.length<=1000000000)(hu:∀p∈d.names,(d.F p.2).bytes.size<=4194304)(ht:t.size<=4194304):TL prog 141 #[.pointer (some ⟨D,0,none⟩),.string y,.string t] w (sO w D d (d.Oa y t) (d.Ki y t)):=by
 obtain⟨i0,hi,ab,ad,ae⟩:=fa info_u8;have l:=mA D d y w h hl;obtain⟨en,_,ec,ef,eF,eq⟩:=jO d;by_cases X:d.pO y=0
 .obtain⟨f,hf,aa⟩:=As h.sn X;have E:d.Oa y t=if d.q<(used d.F d.names:Int)+t.size then 12 else 0:=by unfold Dv.Oa;rw[cg X]
  have HM:=cP (h.FG (y,f) ((Sd.fO h.sn).1 hf));have an:(d.F f).bytes.size<=4194304:=hu (y,f) ((Sd.fO h.sn).1 hf);have af:used d.F d.names<=4194304000000000:=by
   have I:=DF d.F d.names.attach hu;rw[List.attach_map_subtype_val,List.length_attach] at I;exact cx I (cx (Tj 4194304 hl) (by decide))
  have J:=λW (hW:lB W D d.dU)=>Bj D d.dU W hW (by rw[en];exact hl) (by rw[en,eF];exact hu)
  rw[en,eF] at J;rw[aa,X] at l;unfold eX eC at l;obtain⟨U,hU⟩:∃U,used d.F d.names=U:=⟨_,rfl⟩
  rw[hU] at E af J;obtain⟨q,s⟩:∃q,d.q=q:=⟨_,rfl⟩
  rw[s] at E;have HF:=cP hf;have HC:=cP (And.intro ef (And.intro eF (eq.trans s)));clear h X hf aa hU en ec ef eF eq s hu;by_cases m:q<(U:Int)+(t.size:Int)
  .rw[cg m] at E;have HD:Hid (d.Ki y t d.dU):=by show Dv.Ki _ _ _ _;unfold Dv.Ki;rw[cd (by rw[E];decide)]
   rw[E];have ao:decide (IntKind.i64.wrap ((U:Int)+(t.size:Int)) > q)=true:=kH (by rw[fp];omega);have aj:q<IntKind.i64.wrap ((U:Int)+(t.size:Int)):=by rw[fp];omega
   clear E m;go_enter func141,ntmps141;go_wp2_with fail;refine l.mono ?_;rintro e N ⟨rfl,I⟩;have z:=I.at';have O:=z.blk;have u:D<N.heap.size:=cS O;have q0:N.cell? ⟨D,0,none⟩=some (Z Y q):=by rw[z.cell.1,(cO HC).2.2]
   have K:=cP I;have o:=cP J;clear l I z O J;go_wp2_with fail
   go_region_with (go_at_call 33;refine((cO o) _ (by first|exact(cO K).at'|exact(cO K).at'.below TH.drew)).mono ?_;rintro e Q ⟨rfl,A⟩;have q2:Q.cell? ⟨D,0,none⟩=some (Z Y q):=(A.cell (p:=⟨D,0,none⟩) (by first|exact u|simpa using u)).trans q0)
   all_goals
    have b:TI N Q:=(cj _ N).drew.trans (A.mono (by simp));have HB:=cP b;clear A b;go_wp2;go_ret;exact⟨rfl,_,cO HD,(cO K).trans (oN.below (cO K).at' (cO HB))⟩
  .rw[cd m] at E;have HD:Hid (∀v',d.Ki y t (d.dU.nD f ⟨(d.F f).bytes++t,(d.F f).safe⟩ v')):=λv'=>by unfold Dv.Ki;rw[cg E];exact⟨f,v',cO HF,rfl⟩
   rw[E];have aq:(U:Int)+(t.size:Int)<=q:=by omega
   have ak:IntKind.i64.wrap ((U:Int)+(t.size:Int))<=q:=by rw[fp];omega
   clear E m;go_enter func141,ntmps141;go_wp2_with fail;refine l.mono ?_;rintro e N ⟨rfl,I⟩;have z:=I.at';have O:=z.blk;have u:D<N.heap.size:=cS O;have q0:N.cell? ⟨D,0,none⟩=some (Z Y q):=by rw[z.cell.1,(cO HC).2.2]
   have K:=cP I;have o:=cP J;clear l I z O J;go_wp2_with fail
   go_region_with (go_at_call 33;refine((cO o) _ (by first|exact(cO K).at'|exact(cO K).at'.below TH.drew)).mono ?_;rintro e Q ⟨rfl,A⟩;have q2:Q.cell? ⟨D,0,none⟩=some (Z Y q):=(A.cell (p:=⟨D,0,none⟩) (by first|exact u|simpa using u)).trans q0)
   all_goals
    have b:TI N Q:=(cj _ N).drew.trans (A.mono (by simp));have R:=(cO K).at'.below b;have L:f∈d.dU.fs:=by rw[(cO HC).1];exact cO HM
    have M:=R.files f L;rw[(cO HC).2.1] at M;obtain⟨pb,cb,B⟩:=jS M.row;have C:=M.blk;rw[B] at C;have G:=M.row;rw[B] at G;have k0:Q.cell? ⟨f,0,none⟩=some (.slice pb (d.F f).bytes.size cb):=by rw[cn Q _ 0 _ _ _ C];rfl
    have kf:Q.frozen? ⟨f,0,none⟩=false:=by simp[World.frozen?,C]
    have ag:f<Q.heap.size:=cS C;obtain⟨p3,c3,w3,hr,S,T,V⟩:=CY (P:=prog) Q 0 125 9 125 5 i0 underlying125 underlying9 hi ab ad ae (.slice pb (d.F f).bytes.size cb) _ _ G t (by omega) (cy _);have ah:some f≠(Value.slice pb (d.F f).bytes.size cb).ownBlock:=λe=>by
     obtain⟨c',g,_⟩:=cZ G e.symm;exact cY g C (by decide) rfl
    have j:w3.heap[f]?=some (.cells #[.slice pb (d.F f).bytes.size cb,Z Y (d.F f).safe] 127 (0,0)):=(T.block f ag ah).trans C;have k3:w3.cell? ⟨f,0,none⟩=some (.slice pb (d.F f).bytes.size cb):=by rw[cn w3 _ 0 _ _ _ j];rfl
    have ar:w3.frozen? ⟨f,0,none⟩=false:=by simp[World.frozen?,j]
    have H:=cP (And.intro b (And.intro B (And.intro S (And.intro T (And.intro V (And.intro j L))))));clear b B S T V j R M C G A L;go_wp2_with (first
     |(at_builtin;go_must (refine Lib.wpList_append_run _ rfl (.tmp 32) (.tmp 33) _ _ rfl _ _ rfl rfl _ _ hr ?_))
     |go_in)
    go_ret;obtain⟨b,B,S,T,V,j,L⟩:=cO H;have R:=(cO K).at'.below b;have M:=R.files f L;have ai:Kept Q (w3.setCell ⟨f,0,none⟩ (.slice p3 ((d.F f).bytes.size+t.size) c3)) (λk=>k≠f/\(d.dU.vb f).ownBlock≠some k):=(Kept.grown T (λk hk=>by rw[<-B];exact hk.2)).setCell (λhk=>hk.1 rfl) _;have hx:rP (w3.setCell ⟨f,0,none⟩ (.slice p3 ((d.F f).bytes.size+t.size) c3)) f ⟨(d.F f).bytes++t,(d.F f).safe⟩ (.slice p3 ((d.F f).bytes.size+t.size) c3):=by
     refine⟨by rw[cA w3 f 0 _ _ _ j];rfl,?_⟩
     show World.ownsRow _ 0 5 1 _ ((d.F f).bytes++t).size (byteCells ((d.F f).bytes++t))
     rw[wD,cM];refine v8 S (λe=>?_) _;obtain⟨c',g,_⟩:=cZ S e;exact cY g j (by decide) rfl
    have r:=xF R L ai hx (by
     rcases V with e|e
     .rw[B];exact Or.inl e
     .exact Or.inr ⟨_,e,b7 _⟩)
    exact⟨rfl,_,(cO HD) _,(cO K).trans ((oN.below (cO K).at' b).trans r)⟩
 .have E:d.Oa y t=d.pO y:=by unfold Dv.Oa;rw[cd X]
  have HD:Hid (d.Ki y t d.dU):=by show Dv.Ki _ _ _ _;unfold Dv.Ki;rw[E,cd X]
  obtain⟨n,hn⟩:∃n,d.pO y=n:=⟨_,rfl⟩
  have au:(n == 0)=false:=cC.2 (hn ▸ X);rw[E];rw[hn] at l ⊢;obtain⟨p,hp⟩:∃p,eX (d.zP y)=.pointer p:=by cases d.zP y <;> exact⟨_,rfl⟩
  rw[hp] at l;clear h X hp hn E;go_enter func141,ntmps141;go_wp2_with fail;refine l.mono ?_;rintro e N ⟨rfl,I⟩;have K:=cP I;clear l I;go_wp2;go_ret;exact⟨rfl,_,cO HD,cO K⟩
end Pk
namespace Pk
open Go.RowKit Go.Shelf
open Sd (Tb)
open Dk
attribute [local go_sem] Oper.semAt_some
theorem toStr(w:TJ)(g n cap:Nat)(t:TM)(l:t.size=n)(h:∀j,j<t.size->w.cell? ⟨g,j,none⟩=some (Z .u8 (Sp.bt t j))):(convert 125 9 (.slice (some ⟨g,0,none⟩) n cap)).run prog w=.ok (.string t) w:=by
 subst l;have m:=run_convert_bytes_arg (P:=prog) w 125 5 underlying125 underlying5 g 0 t.size cap (t.data.toList.map (λb=>(b.toNat:Int))) (by rw[rY,zh];rfl) (λi hi=>by
  rw[eW,h i hi,<-Sp.jP t i hi,cL,K1,cH (by rw[zh];exact hi)]
  rfl) 9 underlying9
 rw[m];have e:strOfNums (t.data.toList.map (λb=>(b.toNat:Int)))=t:=by
  apply Bk;apply OV.1;rw[strOfNums_data,List.map_map];rw[show ((λn:Int=>UInt8.ofNat n.toNat) ∘ λb:UInt8=>(b.toNat:Int))=id from by funext b;simp];simp
 rw[e]
variable {B:Nat}
theorem Jr{w:TJ}{v:TK}{b:TM}(h:w.ownsRow B 5 1 v b.size (byteCells b)): (convert 125 9 v).run prog w=.ok (.string b) w:=by
 rcases h.2 with ⟨rfl,r⟩|⟨g,l,u,rfl,_,C,D,_,y,z⟩
 .have e:b=ByteArray.empty:=by
   apply Bk;exact Array.eq_empty_of_size_eq_zero r
  rw[e];exact run_convert_bytes_nil w 125 5 underlying125 underlying5 0 0 9 underlying9
 .refine toStr w g b.size l b rfl (λj m=>?_);have A:=h.cellAt j (by omega);rw[A];unfold byteCells;rw[K1,cH (by rw[zh];exact m),<-Sp.jP b j m]
  rfl
def Dv.rd(d:Dv)(y:TM):TM:=if d.down=true then ⟨#[]⟩ else match Sd.jB d.names y with
 |some f=>(d.F f).bytes
 |none=>⟨#[]⟩
def Dv.EV(d:Dv)(y:TM):Int:=if d.down=true then 9 else match Sd.jB d.names y with
 |some _=>0
 |none=>11
theorem uP(D:Nat)(d:Dv)(y:TM)(w:TJ)(h:lB w D d)(I:d.names.length<=1000000000):TL prog 117 #[.pointer (some ⟨D,0,none⟩),.string y] w λe L=>e=.returned (.tuple #[.string (d.rd y),Z Y (d.EV y)])/\TI w L:=by
 have M:=cP h;obtain⟨_,_,_,_,_,_,K⟩:=h.cell;cases b:d.down with
 |true =>
  have z:d.rd y=⟨#[]⟩:=by unfold Dv.rd;rw[cg b]
  have m:d.EV y=9:=by unfold Dv.EV;rw[cg b]
  rw[b] at K;rw[z,m];clear h z m b;go_enter func117,ntmps117;go_wp2;go_ret2;exact⟨rfl,cj _ _⟩
 |false =>
  rw[b] at K;have j:=yT D 1 _ _ d.vn d.names y w (h.Iq I);cases u:Sd.jB d.names y with
  |none =>
   have E:Sd.dw d.names y=false:=by
    cases N:Sd.dw d.names y with
    |false=>rfl
    |true=>obtain⟨_,_,m⟩:=Sd.gn h.sn N;rw[u] at m;cases m
   have z:d.rd y=⟨#[]⟩:=by unfold Dv.rd;rw[cd (by rw[b];decide),u]
   have m:d.EV y=11:=by unfold Dv.EV;rw[cd (by rw[b];decide),u]
   rw[E,u] at j;unfold eX at j;rw[z,m];clear h I E u z m b;go_enter func117,ntmps117;go_wp2_with fail;refine j.mono ?_;rintro e J ⟨rfl,H⟩;go_wp2;go_ret2;exact⟨rfl,H⟩
  |some f =>
   have r:=(Sd.fO h.sn).1 u;have E:Sd.dw d.names y=true:=Sd.iQ.2 ⟨f,r⟩;have O:=cP (h.FG (y,f) r);have z:d.rd y=(d.F f).bytes:=by unfold Dv.rd;rw[cd (by rw[b];decide),u]
   have m:d.EV y=0:=by unfold Dv.EV;rw[cd (by rw[b];decide),u]
   rw[E,u] at j;unfold eX eC at j;rw[z,m];clear h I E u z m r b;go_enter func117,ntmps117;go_wp2_with fail;refine j.mono ?_;rintro e J ⟨rfl,H⟩;have A:=((cO M).below H).files f (cO O);have C:=A.blk;have l:=A.row;obtain⟨P,Q,G⟩:=jS l;rw[G] at C l;have S:J.cell? ⟨f,0,none⟩=some (.slice P (d.F f).bytes.size Q):=by rw[cn J _ 0 _ _ _ C];rfl
   have R:=Jr l;clear A C l G j;go_wp2;go_ret2;exact⟨rfl,H⟩
theorem info_pstr:(prog.info? 9).map (λi=>(i.zero,i.size,i.bytes))=some (some (.string ⟨#[]⟩),1,16):=by kernel_rfl
theorem kJ{W l:TJ}{b:Option Nat}(y:W.grownBy l b)(z:∀r,b=some r->B<=r/\∃o:Obj,W.heap[r]?=some o/\o.isCells=false){k:Nat}{c:Array TK}{t:TypeId}{p:Nat × Nat}(j:W.heap[k]?=some (.cells c t p)): l.heap[k]?=some (.cells c t p):=by
 have A:k<W.heap.size:=(cB.1 j).1;rw[y.block k A (λe=>by
  obtain⟨_,o,m,u⟩:=z k e.symm;rw[j] at m;have:Obj.cells c t p=o:=iP m;rw[<-this] at u;cases u),j]
theorem ny{W z:TJ}{j:Option Nat}(C:W.grownBy z j)(D:∀r,j=some r->B<=r/\∃o:Obj,W.heap[r]?=some o/\o.isCells=false){b e size n:Nat}{v:TK}{A:List TK}(h:W.ownsRow b e size v n A): z.ownsRow b e size v n A:=by
 obtain⟨E,l⟩:=h;refine⟨E,?_⟩;rcases l with l|⟨g,m,u,F,G,y,r⟩
 .exact .inl l
 .exact .inr ⟨g,m,u,F,G,kJ C D y,r⟩
def KV(G:Nat)(L:List TM)(W:TJ):Prop := ∃v,W.heap[G]?=some (.cells #[v] 106 (0,0))/\W.ownsRow (G+1) 9 1 v L.length (L.map Value.string)
theorem Hq(D:Nat)(d:Dv)(w:TJ)(h:lB w D d)(hl:d.names.length<=1000000000)(aa:d.down=false):TL prog 44 #[.pointer (some ⟨D,0,none⟩)] w λe w'=>∃v,e=.returned (.tuple #[v,Z Y 0])/\w'.ownsRow w.heap.size 9 1 v d.names.length (d.names.map (λp=>Value.string p.1))/\TI w w':=by
 refine(FY (n:=5)).1 ?_;refine callsIn_of_wp_marks func44 rfl trivial ?_ rfl;have c6:w.cell? ⟨D,6,none⟩=some (.bool false):=by rw[<-aa];exact h.cell.2.2.2.2.2.2
 simp only[ntmps44,GK,cD,Bb,Nat.reduceAdd,Nat.reduceSub,Jx,JK,Kk,KA,sj,mf];obtain⟨p,R,S,F⟩:=Dk.dM (h.rn);have HD:=cP h;have ab:D<w.heap.size:=cS h.blk
 gi_wp2_with (refine⟨trivial,?_⟩;gi_at_call 55;refine(Dk.qu _ _ trivial rfl _ _).mono ?_;rintro e w' ⟨rfl,rfl⟩)
 obtain⟨i0,hi,ad,ae,af⟩:=fa info_pstr;obtain⟨G,A⟩:∃G,((w.alloc (.cells #[.slice none 0 0] 106)).alloc (.cells #[.pointer (some ⟨D,1,none⟩)] 131))=G:=⟨_,rfl⟩
 have ar:G.heap.size=w.heap.size+2:=by rw[<-A];simp
 have I:TI w G:=by rw[<-A];exact((cj _ w).alloc TG _).alloc (by simp) _
 have ag:G.heap[w.heap.size]?=some (.cells #[.slice none 0 0] 106 (0,0)):=by
  rw[<-A,cN _ _ _ (by simp)];exact G1 w _
 have ah:G.cell? ⟨w.heap.size+1,0,none⟩=some (.pointer (some ⟨D,1,none⟩)):=by
  have:=G1 (w.alloc (.cells #[.slice none 0 0] 106)) (.cells #[.pointer (some ⟨D,1,none⟩)] 131);rw[ee,A] at this;simp[World.cell?,this]
 have ai:G.cell? ⟨D,1,none⟩=some (.slice p d.names.length R):=by
  rw[I.cell (p:=⟨D,1,none⟩) ab,cn w D 1 _ _ _ h.blk,<-S];rfl
 have aj:∀j (T:j<d.names.length),∃g,p=some ⟨g,0,none⟩/\g<w.heap.size/\True/\G.cell? ⟨g,j*2,none⟩=some (.string d.names[j].1)/\G.cell? ⟨g,j*2+1,none⟩=some (eC d.names[j].2):=λj T=>by
  obtain⟨g,e,c0,c1⟩:=F j T;have Q:=cE w _ c0;exact⟨g,e,Q,trivial,(I.cell (p:=⟨g,j*2,none⟩) Q).trans c0,(I.cell (p:=⟨g,j*2+1,none⟩) Q).trans c1⟩
 rw[A];clear A F S h;refine wpIn_rangeFunc_ownG rfl (by omega) (gf:=96) (lb := #[.pointer (some ⟨w.heap.size+1,0,none⟩)]) rfl trivial (enters_of func96 (by kernel_rfl) rfl)
  (Dk.kG _ _ trivial rfl (by omega) (w.heap.size+1) D 1 w.heap.size (λ_=>True) p R d.names hl G (by omega) (by omega) (by omega) ah ai aj) (λh k=>h.trans k) (rR (by omega)) (cj _ _) (λ_=>rfl)
  (λm W=>KV w.heap.size (m.map (·.1.1)) W/\Below w.heap.size G W)
  (λ_ _ _=>False)
  (OwnFrom.and (λm W W' au hI Q s=>by obtain⟨v,h1,h2⟩:=hI;exact⟨v,kJ Q s h1,ny Q s h2⟩) (ownFrom_below (by omega) (by omega)))
  (λ_ _ _ _ _ hs _ _=>hs)
  ⟨⟨_,ag,fc _ _ _ _⟩,cj _ _⟩
  (λy=>{ tmps := #[.pointer (some ⟨D,0,none⟩),undef,.slice none 0 0,Z Y 0,.pointer (some ⟨w.heap.size,0,none⟩),.string y.1.1,.pointer (some ⟨D,0,none⟩),.pointer (some ⟨D,0,none⟩),.pointer (some ⟨D,6,none⟩),.bool false,.pointer (some ⟨D,0,none⟩),.pointer (some ⟨D,0,none⟩),.pointer (some ⟨D,1,none⟩),.func (.func 96) #[] #[.pointer (some ⟨w.heap.size+1,0,none⟩)],.string y.1.1,eC y.1.2,undef,undef,undef,undef,undef],defers:=[] }) ?assign ?body ?done ?stop
 case assign =>
  intro l y W K o
  gi_wp2
  exact o
 case body =>
  rintro l' m ⟨⟨ya,yf⟩,hy⟩ W ⟨⟨v,C,b⟩,M⟩ av;rw[rY] at b;obtain⟨J,L,rfl⟩:=jS b;have u0:W.cell? ⟨w.heap.size,0,none⟩=some (.slice J m.length L):=by rw[cn W _ 0 _ _ _ C];rfl
  have U:w.heap.size<W.heap.size:=cS C;have ak:some w.heap.size≠(Value.slice J m.length L).ownBlock:=λe=>by have:=(b.lt _ e.symm).1;omega
  unfold eC
  gi_wp2_with (gi_at_builtin;go_loud (refine wpListIn_append_own _ rfl _ _ 106 rfl (w.heap.size+1) 9 i0 (.string ⟨#[]⟩) 1 16 underlying106 hi ad ae af rfl (by decide) (.slice J m.length L) _ _ rfl (b.alloc _) ⟨W.heap.size,0,none⟩ 1 1 [.string ya] rfl rfl (cell_one_new _ _ _) (by simp[Value.oneCell']) (by unfold maxLen;omega) (by omega) (cx (show w.heap.size+1<=W.heap.size by omega) (by simp)) ?_;intro v' N H u _;obtain⟨g1,z,rfl⟩:=ownsRow_succ H;have O:N.heap[w.heap.size]?=some (.cells #[.slice J m.length L] 106 (0,0)):=(u.block w.heap.size (Nat.lt_trans U (by simp)) ak).trans ((cN W _ _ U).trans C);have q0:N.cell? ⟨w.heap.size,0,none⟩=some (.slice J m.length L):=(cn N _ 0 _ _ _ O).trans rfl;have qf:N.frozen? ⟨w.heap.size,0,none⟩=false:=by(simp[World.frozen?,O])))
  have an:KeepsOthers W (N.setCell ⟨w.heap.size,0,none⟩ (.slice (some ⟨g1,0,none⟩) (m.length+1) z)):=by
   refine((KeepsOthers.alloc W _).trans (KeepsOthers.of_grownBy u λj o' ej T=>?_)).trans (KeepsOthers.setCell _ _ _);obtain⟨aw,hc,_⟩:=cZ (b.alloc _) ej;rw[hc] at T;cases T;rfl
  have E:Below w.heap.size W (N.setCell ⟨w.heap.size,0,none⟩ (.slice (some ⟨g1,0,none⟩) (m.length+1) z)):=(((cj w.heap.size W).alloc (by omega) _).grown u (by simp;omega) (λk V=>by have:=(b.lt k V).1;omega)).setCell (p:=⟨w.heap.size,0,none⟩) TG _;have ao:=cA N w.heap.size 0 _ _ (.slice (some ⟨g1,0,none⟩) (m.length+1) z) O;exact⟨an.from _,⟨E.os,E.tape,E.output,E.size,λk V _=>E.block k V⟩,⟨.slice (some ⟨g1,0,none⟩) (m.length+1) z,ao,by rw[rY,lN,Bg,Bg];exact cI H (show w.heap.size<w.heap.size+1 by omega) _⟩,M.trans E⟩
 case done =>
  rintro Dd ys W ax P ⟨⟨v,C,b⟩,M⟩ o;have X:ys.length=d.names.length:=by rw[P,List.length_attach]
  have q:(ys.map (·.1.1)).map Value.string=d.names.map (λp=>Value.string p.1):=by
   have e:=congrArg (List.map (λp:TM × Nat=>Value.string p.1)) (List.attach_map_subtype_val d.names);rw[List.map_map] at e;rw[P,List.map_map];exact e
  rw[rY,X,q] at b;obtain⟨J,L,rfl⟩:=jS b;have aq:=cP b;have u0:W.cell? ⟨w.heap.size,0,none⟩=some (.slice J d.names.length L):=by rw[cn W _ 0 _ _ _ C];rfl
  have t:=I.trans M;clear P C X b q
  gi_wp2
  refine⟨by simp,.inl ⟨_,_,rfl,run_takeDeferred o,?_⟩⟩;refine⟨.tuple #[.slice J d.names.length L,Z Y 0],by simp[results,results44,go_sem],_,rfl,?_,?_⟩
  .exact mE (ny (B:=0) (Tl W Dd _) (λr s=>by cases s;exact⟨cy _,_,o,rfl⟩) (cO aq)) (px _)
  .exact t.grown (Tl W Dd _) t.size (λk V=>by cases V;omega)
 case stop =>
  intro D' c m W _ _ h;exact h.elim
theorem E5(D:Nat)(d:Dv)(w:TJ)(h:lB w D d)(b:d.down=true):TL prog 44 #[.pointer (some ⟨D,0,none⟩)] w λe j=>e=.returned (.tuple #[.slice none 0 0,Z Y 9])/\TI w j:=by
 have l:w.cell? ⟨D,6,none⟩=some (.bool true):=by rw[<-b];exact h.cell.2.2.2.2.2.2
 clear h b;go_enter func44,ntmps44;go_wp2;go_ret2;exact⟨rfl,cj _ _⟩
end Pk
namespace Pk
open Go.RowKit
open Sd (Tb)
open Rd (Rk tab e0)
def bm(blk:Nat->Nat)(p:TM × Nat):TM × Nat:=(p.1,blk p.2)
def cm(blk:Nat->Nat)(c:Rd.Ch):Ch:=⟨c.goes,c.comes,if c.comes=e0 then none else some (blk c.file)⟩
theorem yt(blk:Nat->Nat)(T:Tb)(a:TM):Sd.dm (T.map (bm blk)) a=Sd.dm T a:=by
 unfold Sd.dm;rw[List.filter_map,rY]
 rfl
theorem ry(blk:Nat->Nat)(T:Tb)(a:TM):Sd.dw (T.map (bm blk)) a=Sd.dw T a:=by
 unfold Sd.dw;rw[List.any_map]
 rfl
theorem LD(blk:Nat->Nat)(T:Tb)(a:TM):Sd.jB (T.map (bm blk)) a=(Sd.jB T a).map blk:=by
 unfold Sd.jB;rw[ry,yt];split
 .rw[K1,Option.map_map,Option.map_map];rfl
 .rfl
theorem DW(blk:Nat->Nat)(T:Tb)(a:TM)(i:Nat):Sd.jZ (T.map (bm blk)) a (blk i)=(Sd.jZ T a i).map (bm blk):=by
 unfold Sd.jZ Sd.gI;rw[ry,yt];split
 .rw[List.map_set];rfl
 .rw[Bg,wj,List.map_take,List.map_drop];rfl
theorem xz{α β : Type}(f : α->β):∀(L:List α) (k:Nat),(L.map f).eraseIdx k=(L.eraseIdx k).map f
 |[],_=>rfl
 |a::L,0=>rfl
 |a::L,k+1=>by simp[xz f L k]
theorem Ei(blk:Nat->Nat)(T:Tb)(a:TM):Sd.gM (T.map (bm blk)) a=(Sd.gM T a).map (bm blk):=by
 unfold Sd.gM;rw[ry,yt];split
 .exact xz (bm blk) T _
 .rfl
variable {T:Tb}
theorem LN(h:Sd.dw T e0=false): Sd.gM T e0=T:=by unfold Sd.gM;rw[cd (by rw[h];decide)]
theorem Dq{a:TM}:a.size=0↔a=e0:=⟨λh=>Bk (Array.eq_empty_of_size_eq_zero h),λh=>by rw[h];rfl⟩
theorem Gw(blk:Nat->Nat)(j:Sd.dw T e0=false)(c:Rd.Ch): nW (T.map (bm blk)) (cm blk c)=(Rd.OZ T c).map (bm blk):=by
 unfold nW Rd.OZ cm;by_cases e:c.comes=e0
 .simp only[cg e];exact Ei blk T c.goes
 .simp only[cd e];by_cases b:c.goes=e0
  .rw[cg (Dq.2 b),b,LN j];exact DW blk T c.comes c.file
  .rw[cd (λh=>b (Dq.1 h)),Ei];exact DW blk _ c.comes c.file
variable {blk:Nat->Nat}
theorem Am{blk':Nat->Nat}{n:Nat}(b:∀p∈T,p.2<n)(h:∀i,i<n->blk' i=blk i): T.map (bm blk')=T.map (bm blk):=Tm λp e=>by unfold bm;rw[h _ (b p e)]
structure Is (d:Dv) (R:Rk) (blk:Nat->Nat):Prop where
 q:d.q=R.cT
 names:d.names=(tab R.now).map (bm blk)
 safe:d.safe=(tab R.safe).map (bm blk)
 dS:d.dS=R.dS.map (cm blk)
 fs:d.fs=(List.range R.files.length).map blk
 inj:∀i j,i<R.files.length->j<R.files.length->blk i=blk j->i=j
 F:∀i,i<R.files.length->d.F (blk i)=⟨(R.fl i).bytes,(R.fl i).safe⟩
 Fs:∀f,(d.F f).safe<=(d.F f).bytes.size
 down:d.down=R.down
 arm:R.down=true\/(d.mr=false/\R.left = -1)\/(d.mr=true/\d.left=R.left/\0<=R.left)
 left : -1<=R.left/\R.left<=9223372036854775807
 ok:R.Ok
 PK:∀c∈R.dS,¬c.comes=e0\/¬c.goes=e0
variable {d:Dv}{R:Rk}
theorem Is.up(h:Is d R blk): d.up=R.up:=by
 unfold Dv.up Rk.up;rw[h.down];rcases h.arm with e|⟨b,j⟩|⟨b,j,l⟩
 .rw[e];rfl
 .rw[b,j];cases R.down <;> simp
 .rw[b,j];cases R.down <;> simp
theorem Is.same{b:Dv}{R':Rk}(h:Is d R blk)(u:b.q=R'.cT)(y:b.names=d.names)(z:b.safe=d.safe)(A:b.dS=d.dS)(B:b.fs=d.fs)(j:b.F=d.F)(l:R'.files=R.files)(m:R'.safe=R.safe)(r:R'.dS=R.dS)(hd:b.down=R'.down)(ha:R'.down=true\/(b.mr=false/\R'.left = -1)\/(b.mr=true/\b.left=R'.left/\0<=R'.left))(C : -1<=R'.left/\R'.left<=9223372036854775807): Is b R' blk:=by
 obtain⟨H,I,J,D,E,G⟩:=R';simp only at l m r;subst l m r;have e:Rk.Ok ⟨R.files,R.safe,R.dS,D,E,G⟩:=⟨h.ok.key,h.ok.some,h.ok.sf,h.ok.cf,h.ok.cut⟩
 exact⟨u,y.trans h.names,z.trans h.safe,A.trans h.dS,B.trans h.fs,h.inj,λi hi=>by rw[j];exact h.F i hi,λf=>by rw[j];exact h.Fs f,hd,ha,C,e,h.PK⟩
theorem Is.dU(h:Is d R blk): Is d.dU R.dU blk:=by
 obtain⟨y,z,A,B,C,D⟩:=jO d;obtain⟨E,F,G,H⟩:=Rd.jv R;have r:=h.left;have u:=h.arm;have l:=h.down;refine h.same (by rw[D,H];exact h.q) y z A B C E F G ?_ ?_ ?_
 .unfold Dv.dU Rk.dU;rw[l];cases hd:R.down with
  |true =>
   split
   .simp[hd]
   .simp[l,hd]
  |false =>
   rcases u with e|⟨b,j⟩|⟨b,j,I⟩
   .rw[hd] at e;cases e
   .rw[b,j];simp[l,hd]
   .rw[b,j];by_cases m:R.left=0
    .simp[m]
    .have:0<R.left:=by omega
     simp[m,this,hd]
 .unfold Dv.dU Rk.dU;cases hd:R.down with
  |true=>left;simp[hd]
  |false =>
   rcases u with e|⟨b,j⟩|⟨b,j,I⟩
   .rw[hd] at e;cases e
   .right;left;rw[b,j];simp[b,j]
   .by_cases m:R.left=0
    .left;simp[m]
    .right;right;have J:0<R.left:=by omega
     rw[b];simp only[l9,m,J,yI,Td];refine⟨by first|trivial|exact b,?_,by omega⟩;rw[j];unfold wrap64;omega
 .unfold Rk.dU;split
  .exact r
  .split
   .exact r
   .split
    .simp only;omega
    .exact r
theorem Is.Ph(h:Is d R blk): Sd.dw (tab R.now) e0=false:=by
 cases hh:Sd.dw (tab R.now) e0 with
 |false=>rfl
 |true =>
  obtain⟨v,b⟩:=Sd.iQ.1 hh;exact absurd rfl (h.ok.kR _ (e0,v) ((Rd.fx (h.ok.ez _)).1 b))
theorem Is.get(h:Is d R blk)(a:TM): Sd.jB d.names a=(Rd.dp R.now a).map blk:=by rw[h.names,LD,Rd.lx]
theorem Is.has(h:Is d R blk)(a:TM): Sd.dw d.names a=(Rd.dp R.now a).isSome:=by
 rw[h.names,ry,<-Rd.lx];cases hh:Sd.dw (tab R.now) a with
 |false=>rw[Sd.me hh];rfl
 |true=>obtain⟨_,_,e⟩:=Sd.gn (Rd.dY R.now) hh;rw[e];rfl
theorem Is.pO(h:Is d R blk)(a:TM): d.pO a=if R.up=false then 9 else match Rd.dp R.now a with
  |none=>11
  |some _=>0:=by
 unfold Dv.pO;rw[h.up,h.has];cases R.up with
 |false=>rfl
 |true=>cases Rd.dp R.now a <;> rfl
theorem Is.BZ(h:Is d R blk)(c:Rd.Ch)(l:c.file<R.files.length\/c.comes=e0)(m:¬c.comes=e0\/¬c.goes=e0)(b j:TK): Is (d.BZ (cm blk c) b j) { R with dS:=R.dS++[c] } blk:=by
 refine⟨h.q,?_,h.safe,?_,h.fs,h.inj,h.F,h.Fs,h.down,h.arm,h.left,Rd.NB h.ok c l,λx r=>?_⟩
 .show nW d.names (cm blk c)=_
  rw[Rd.Rk.qQ,Rd.Hb (L:=R.now) (Rd.kA.2 (h.ok.kR _)),h.names,Gw blk h.Ph]
 .show d.dS++[cm blk c]=(R.dS++[c]).map (cm blk)
  rw[h.dS,Bg];rfl
 .rcases cJ.1 r with e|e
  .exact h.PK x e
  .rw[eh.1 e];exact m
theorem Is.pS(h:Is d R blk){f:Nat}(B:∀k,k∈d.fs->k≠f): Is (d.pS f) { R with files:=R.files++[⟨e0,0⟩] } (ox blk R.files.length f):=by
 have b:∀i,i<R.files.length->ox blk R.files.length f i=blk i:=λi hi=>eo _ _ (by omega)
 have C:∀p∈tab R.now,p.2<R.files.length:=λp m=>h.ok.ly _ p ((Rd.fx (h.ok.ez _)).1 m)
 have D:∀p∈tab R.safe,p.2<R.files.length:=λp m=>h.ok.sf p ((Rd.fx h.ok.key).1 m)
 have l:∀i,i<R.files.length->blk i≠f:=λi hi=>B _ (by rw[h.fs];exact xD.2 ⟨i,KH.2 hi,rfl⟩)
 have r:(R.files++[Rd.Fl.mk e0 0]).length=R.files.length+1:=by simp
 refine⟨h.q,?_,?_,?_,?_,λi j hi u e=>?_,λi hi=>?_,λk=>?_,h.down,h.arm,h.left,Rd.Il h.ok,h.PK⟩
 .exact h.names.trans (Am C b).symm
 .exact h.safe.trans (Am D b).symm
 .refine h.dS.trans (Tm λc E=>?_);unfold cm;by_cases e:c.comes=e0
  .rw[cg e,cg e]
  .rw[cd e,cd e];rcases h.ok.cf c E with y|y
   .rw[b _ y]
   .exact absurd y e
 .show d.fs++[f]=(List.range (R.files++[Rd.Fl.mk e0 0]).length).map (ox blk R.files.length f)
  rw[r,List.range_succ,Bg,h.fs]
  congr 1
  .exact Tm λi hi=>(b i (KH.1 hi)).symm
  .simp[eB]
 .have hi:i<(R.files++[Rd.Fl.mk e0 0]).length:=hi;have u:j<(R.files++[Rd.Fl.mk e0 0]).length:=u;rw[r] at hi u;by_cases z:i=R.files.length
  .by_cases A:j=R.files.length
   .omega
   .rw[z,eB,b j (by omega)] at e;exact absurd e.symm (l j (by omega))
  .by_cases A:j=R.files.length
   .rw[A,eB,b i (by omega)] at e;exact absurd e (l i (by omega))
   .rw[b i (by omega),b j (by omega)] at e;exact h.inj i j (by omega) (by omega) e
 .have hi:i<(R.files++[Rd.Fl.mk e0 0]).length:=hi;rw[r] at hi
  show ox d.F f ⟨⟨#[]⟩,0⟩ (ox blk R.files.length f i)=_
  by_cases z:i=R.files.length
  .rw[z,eB,eB];unfold Rk.fl;rw[cL,cF TG];simp;rfl
  .rw[b i (by omega),eo _ _ (l i (by omega)),h.F i (by omega),Rd.FX R _ i (by omega)]
 .show (ox d.F f ⟨⟨#[]⟩,0⟩ k).safe<=(ox d.F f ⟨⟨#[]⟩,0⟩ k).bytes.size
  by_cases e:k=f
  .rw[e,eB];exact cy _
  .rw[eo _ _ e];exact h.Fs k
theorem Is.nD(h:Is d R blk){i:Nat}(hi:i<R.files.length)(b:TM)(n:Nat)(m:n<=b.size)(v':TK): Is (d.nD (blk i) ⟨b,n⟩ v') (R.nD i ⟨b,n⟩) blk:=by
 have u:(R.files.set i ⟨b,n⟩).length=R.files.length:=QX;refine⟨h.q,h.names,h.safe,h.dS,?_,λj k l r e=>?_,λj l=>?_,λk=>?_,h.down,h.arm,h.left,Rd.KO h.ok i ⟨b,n⟩ m,h.PK⟩
 .show d.fs=(List.range (R.files.set i ⟨b,n⟩).length).map blk
  rw[u];exact h.fs
 .have l:j<(R.files.set i ⟨b,n⟩).length:=l;have r:k<(R.files.set i ⟨b,n⟩).length:=r;rw[u] at l r;exact h.inj j k l r e
 .have l:j<(R.files.set i ⟨b,n⟩).length:=l;rw[u] at l
  show ox d.F (blk i) ⟨b,n⟩ (blk j)=_
  by_cases e:j=i
  .rw[e,eB]
   show _=Fl.mk ((R.files.set i ⟨b,n⟩).getD i ⟨e0,0⟩).bytes ((R.files.set i ⟨b,n⟩).getD i ⟨e0,0⟩).safe
   rw[cL,TB hi];rfl
  .rw[eo _ _ (λy=>e (h.inj j i l hi y)),h.F j l]
   show _=Fl.mk ((R.files.set i ⟨b,n⟩).getD j ⟨e0,0⟩).bytes ((R.files.set i ⟨b,n⟩).getD j ⟨e0,0⟩).safe
   rw[cL,RI (λy=>e y.symm)];unfold Rk.fl;rw[cL]
 .show (ox d.F (blk i) ⟨b,n⟩ k).safe<=(ox d.F (blk i) ⟨b,n⟩ k).bytes.size
  by_cases e:k=blk i
  .rw[e,eB];exact m
  .rw[eo _ _ e];exact h.Fs k
theorem Is.sy(h:Is d R blk)(b:TK): Is (d.sy b) { R with safe:=R.now,dS:=[] } blk:=by
 have e:({ R with safe:=R.now,dS:=[] }:Rk).Ok:=⟨h.ok.ez _,h.ok.kR _,h.ok.ly _,λc j=>(by cases j),h.ok.cut⟩
 have l:({ R with safe:=R.now,dS:=[] }:Rk).now=R.now:=by
  unfold Rk.now Rk.dir;exact Rd.lQ (h.ok.kR _)
 refine⟨h.q,?_,h.names,rfl,h.fs,h.inj,h.F,h.Fs,h.down,h.arm,h.left,e,λc j=>(by cases j)⟩;rw[l];exact h.names
end Pk
namespace Pk
open Go.RowKit
open Sd (Tb)
open Rd (Rk tab e0)
open Dk (Kept du)
def EH(w:TJ)(E:Nat)(R:Rk)(vf vs vc:TK):Prop:=True
def tT(E:Nat)(vf vs vc:TK)(k:Nat):Prop:=False
variable {vc vf vs:TK}{R:Rk}{w w':TJ}{E:Nat}
theorem EH.kept{e:Nat->Prop}(h:EH w E R vf vs vc)(j:Kept w w' e)(l:∀k,tT E vf vs vc k->e k): EH w' E R vf vs vc:=trivial
theorem EH.below(h:EH w E R vf vs vc)(hb:TI w w'): EH w' E R vf vs vc:=trivial
variable {d:Dv}
theorem lB.kept{D:Nat}{r:Nat->Prop}(h:lB w D d)(l:Kept w w' r)(j:∀k,ot D d k->r k): lB w' D d:=⟨(l.block D (cS h.blk) (j D (Or.inl rfl))).trans h.blk,du h.rn l (λg e=>j g (Or.inr (Or.inl e))),du h.rs l (λg e=>j g (Or.inr (Or.inr (Or.inl e)))),du h.rc l (λg e=>j g (Or.inr (Or.inr (Or.inr (Or.inl e))))),h.sn,h.ss,h.apart,λf m=>(h.files f m).kept l (j f (Or.inr (Or.inr (Or.inr (Or.inr ⟨f,m,Or.inl rfl⟩))))) (λg e=>j g (Or.inr (Or.inr (Or.inr (Or.inr ⟨f,m,Or.inr e⟩))))),h.fap,h.FG,h.N5,h.MV⟩
def gd(e w:TJ)(D E:Nat)(Q R:Rk)(O:Nat->Prop):Prop := ∃d blk vf vs vc,lB w D d/\Is d Q blk/\EH w E R vf vs vc/\(∀k,ot D d k->¬tT E vf vs vc k)/\Kept e w (λk=>¬O k)/\∀k,ot D d k\/tT E vf vs vc k->O k\/e.heap.size<=k
def pP(w:TJ)(D E:Nat)(R:Rk)(O:Nat->Prop):Prop := ∃d blk vf vs vc,lB w D d/\Is d R blk/\EH w E R vf vs vc/\(∀k,ot D d k->¬tT E vf vs vc k)/\∀k,O k↔ot D d k\/tT E vf vs vc k
theorem vw{m u:TJ}{O j:Nat->Prop}(h:Kept m w (λk=>¬O k))(l:Kept w u (λk=>¬j k))(z:∀k,j k->O k\/m.heap.size<=k): Kept m u (λk=>¬O k):=by
 have A:=h.size;refine⟨l.os.trans h.os,l.tape.trans h.tape,l.output.trans h.output,cx A l.size,λk r y=>?_⟩;rw[l.block k (by omega) (λe=>by rcases z k e with e | e;exact y e;omega),h.block k r y]
theorem gd.fD{l u:TJ}{D:Nat}{Q y:Rk}{O:Nat->Prop}{m:Dv}{blk':Nat->Nat}(C:EH w E R vf vs vc)(z:∀k,ot D d k->¬tT E vf vs vc k)(A:Kept l w (λk=>¬O k))(r:∀k,ot D d k\/tT E vf vs vc k->O k\/l.heap.size<=k)(ht:oN w u D d m)(hi:Is m y blk'): gd l u D E y R O:=by
 have F:=A.size;refine⟨m,blk',vf,vs,vc,ht.at',hi,EH.kept C ht.kept (λk j hd=>z k hd j),λk j B=>?_,vw A ht.kept (λk j=>r k (Or.inl j)),λk j=>?_⟩
 .rcases ht.own k j with e|e
  .exact z k e B
  .exact False.elim B
 .rcases j with j|j
  .rcases ht.own k j with e|e
   .exact r k (Or.inl e)
   .exact Or.inr (by omega)
  .exact r k (Or.inr j)
structure Sm (R:Rk) (n b:Nat):Prop where
 dir:R.safe.length+R.dS.length+R.now.length<=n
 fn:R.files.length<=n
 file:∀f∈R.files,f.bytes.size<=b
 ns:∀p∈R.safe,p.1.size<=12
 nc:∀c∈R.dS,c.comes.size<=12
variable {n b:Nat}
theorem Sm.fl(h:Sm R n b)(i:Nat): (R.fl i).bytes.size<=b:=by
 unfold Rk.fl;by_cases hi:i<R.files.length
 .rw[cL,cH hi];exact h.file _ (pY _)
 .rw[cL,Tu (by omega)];exact cy _
variable {blk:Nat->Nat}
theorem Is.wM(h:Is d R blk)(e:Sm R n b): d.names.length<=n/\d.safe.length+d.dS.length<=n:=by
 have j:=Rd.uw R R.dS.length;have l:=e.dir;rw[h.names,h.safe,h.dS];simp only[rY];rw[Rd.ur (show Rd.keyed R.now from h.ok.ez _),Rd.ur h.ok.key];unfold Rk.now;omega
theorem Is.uF(h:Is d R blk)(j:Sm R n b): ∀p∈d.names,(d.F p.2).bytes.size<=b:=λp e=>by
 rw[h.names] at e;obtain⟨q,l,rfl⟩:=xD.1 e;have m:=h.ok.ly _ q ((Rd.fx (h.ok.ez _)).1 l)
 show (d.F (blk q.2)).bytes.size<=b
 rw[h.F _ m];exact j.fl q.2
theorem Is.used(h:Is d R blk): used d.F d.names=R.use R.now:=by
 rw[<-Rd.GS R (Rd.rv R.now (h.ok.ez _)),h.names];unfold Pk.used Rk.use;rw[List.map_map]
 congr 1
 refine Tm λp e=>?_
 have j:=h.ok.ly _ p ((Rd.fx (h.ok.ez _)).1 e)
 show (d.F (blk p.2)).bytes.size=_
 rw[h.F _ j]
def DP(j:TJ)(D E:Nat)(Q R:Rk)(O:Nat->Prop)(n:Int)(e:Ending)(w':TJ):Prop:=e=.returned (Z Y n)/\gd j w' D E Q R O
end Pk
namespace Pk
open Go.RowKit
open Sd (Tb)
open Rd (Rk tab e0)
open Dk (Kept du)
theorem Jz(H w:TJ)(D E:Nat)(R R':Rk)(O:Nat->Prop)(n b:Nat)(y:TM)(h:gd H w D E R R' O)(L:Sm R n b)(S:n<=1000000000)(M:y.size<=1048576):TL prog 140 #[.pointer (some ⟨D,0,none⟩),.string y] w (DP H D E (R.create y).2 R' O (R.create y).1):=by
 obtain⟨d,j,T,U,V,I,l,u,z,A,B⟩:=h;obtain⟨W,X⟩:=l.wM L;refine(C3 D d y w I (by omega) (by omega) M).mono ?_;rintro e x ⟨rfl,q,hd,C⟩;have m:=l.up;refine⟨?_,?_⟩
 .unfold Dv.MJ Rk.create;rw[m];cases R.up with
  |false=>rfl
  |true =>
   cases Rd.nH y <;> rfl
 .unfold Dv.Kl at hd;rw[m] at hd;unfold Rk.create;cases hu:R.up with
  |false =>
   rw[hu] at hd;simp only[Td,false_and,yI] at hd;subst hd;exact gd.fD (Q:=R) u z A B C l.dU
  |true =>
   rw[hu] at hd;cases r:Rd.nH y with
   |false =>
    rw[r] at hd;simp only[Td,and_false,yI] at hd;subst hd;exact gd.fD (Q:=R) u z A B C l.dU
   |true =>
    rw[r] at hd;simp only[and_self,l9] at hd;obtain⟨f,F,G,N,rfl⟩:=hd;refine gd.fD (Q:=R) u z A B C (blk':=ox j R.dU.files.length f) ?_;have P:=l.dU.pS (f:=f) (λk J e=>by
     rw[(jO d).2.2.2.1] at J;have:=cS (I.files k J).blk;omega)
    have K:=P.BZ ⟨e0,y,R.dU.files.length⟩ (Or.inl (by simp)) (Or.inl (Rd.oD r)) F G;have e:cm (ox j R.dU.files.length f) ⟨e0,y,R.dU.files.length⟩=⟨e0,y,some f⟩:=by
     unfold cm;simp only[cd (Rd.oD r),eB]
    rw[e] at K;exact K
theorem DJ{R:Rk}(b:R.Ok){a:TM}{i:Nat}(e:Rd.dp R.now a=some i):i<R.files.length:=b.ly _ (a,i) ((Rd.lh (b.ez _)).1 e)
theorem IL(H w:TJ)(D E:Nat)(R R':Rk)(O:Nat->Prop)(n b:Nat)(y:TM)(h:gd H w D E R R' O)(J:Sm R n b)(P:n<=1000000000)(K:y.size<=1048576):TL prog 91 #[.pointer (some ⟨D,0,none⟩),.string y] w (DP H D E (R.remove y).2 R' O (R.remove y).1):=by
 obtain⟨d,l,S,T,U,L,j,m,r,u,z⟩:=h;obtain⟨V,W⟩:=j.wM J;have M:Sd.dw d.names e0=false:=by rw[j.names,ry];exact j.Ph
 refine(kd D d y w L (by omega) (by omega) K M).mono ?_;rintro e X ⟨rfl,k,hd,A⟩;have N:=j.pO y;unfold Dv.OG at hd;unfold Rk.remove Rk.on;rw[N] at hd ⊢;cases hu:R.up with
 |false =>
  rw[hu] at hd;simp only[l9] at hd ⊢;rw[cd (by decide)] at hd;subst hd;exact⟨rfl,gd.fD (Q:=R) m r u z A j.dU⟩
 |true =>
  rw[hu] at hd;simp only[Bool.true_eq_false,yI] at hd ⊢;cases B:Rd.dp R.now y with
  |none =>
   rw[B] at hd;simp only at hd ⊢;rw[cd (by decide)] at hd;subst hd;exact⟨rfl,gd.fD (Q:=R) m r u z A j.dU⟩
  |some i =>
   rw[B] at hd;simp only[l9] at hd ⊢;obtain⟨C,F,rfl⟩:=hd;have G:¬y=e0:=λe=>by
    have:=j.ok.kR _ (y,i) ((Rd.lh (j.ok.ez _)).1 B);exact this e
   have I:=j.dU.BZ ⟨y,e0,0⟩ (Or.inr rfl) (Or.inr G) C F;have e:cm l ⟨y,e0,0⟩=⟨y,e0,none⟩:=by unfold cm;simp
   rw[e] at I;exact⟨rfl,gd.fD (Q:=R) m r u z A I⟩
theorem Ib(M w:TJ)(D E:Nat)(R R':Rk)(O:Nat->Prop)(n b:Nat)(x y:TM)(h:gd M w D E R R' O)(P:Sm R n b)(q:n<=1000000000)(S:x.size<=1048576)(T:y.size<=1048576):TL prog 95 #[.pointer (some ⟨D,0,none⟩),.string x,.string y] w (DP M D E (R.rename x y).2 R' O (R.rename x y).1):=by
 obtain⟨d,r,t,s,p,U,j,u,z,A,B⟩:=h;obtain⟨o,g⟩:=j.wM P;refine(BT D d x y w U (by omega) (by omega) S T).mono ?_;rintro e w' ⟨rfl,d',hd,C⟩;have V:=j.pO x;have G:=j.get x;unfold Dv.BJ at hd;unfold Dv.Io at hd ⊢;unfold Rk.rename;rw[V,j.up] at hd ⊢;by_cases m:R.up=true/\Rd.nH y=false
 .rw[cg m] at hd ⊢;rw[cg m];rw[cd (by simp)] at hd;subst hd;exact⟨rfl,gd.fD (Q:=R) u z A B C j.dU⟩
 .rw[cd m] at hd ⊢;rw[cd m];unfold Rk.on;cases hu:R.up with
  |false =>
   rw[hu] at hd;simp only[l9] at hd ⊢;rw[cd (by simp)] at hd;subst hd;exact⟨rfl,gd.fD (Q:=R) u z A B C j.dU⟩
  |true =>
   rw[hu] at hd m;simp only[Bool.true_eq_false,yI] at hd ⊢;cases H:Rd.dp R.now x with
   |none =>
    rw[H] at hd;simp only at hd ⊢;rw[cd (by simp)] at hd;subst hd;exact⟨rfl,gd.fD (Q:=R) u z A B C j.dU⟩
   |some i =>
    rw[H] at hd G;simp only[true_and] at hd ⊢;by_cases l:x=y
    .rw[cd (λW=>W l)] at hd;subst hd;rw[cg l];exact⟨rfl,gd.fD (Q:=R) u z A B C j.dU⟩
    .rw[cg l] at hd;obtain⟨f,I,J,X,rfl⟩:=hd;rw[cd l];have K:f=r i:=by rw[X] at G;exact iP G
     have F:Rd.nH y=true:=by
      cases k:Rd.nH y with
      |true=>rfl
      |false=>exact absurd ⟨rfl,k⟩ m
     have L:i<R.dU.files.length:=by rw[(Rd.jv R).1];exact DJ j.ok H
     have N:=j.dU.BZ ⟨x,y,i⟩ (Or.inl L) (Or.inl (Rd.oD F)) I J;have e:cm r ⟨x,y,i⟩=⟨x,y,some f⟩:=by unfold cm;simp only[cd (Rd.oD F),K]
     rw[e] at N;exact⟨rfl,gd.fD (Q:=R) u z A B C N⟩
theorem NA(J w:TJ)(D E:Nat)(R R':Rk)(O:Nat->Prop)(n b:Nat)(y:TM)(h:gd J w D E R R' O)(K:Sm R n b)(T:n<=1000000000):TL prog 142 #[.pointer (some ⟨D,0,none⟩),.string y] w (DP J D E (R.sync y).2 R' O (R.sync y).1):=by
 obtain⟨d,u,U,V,W,L,j,z,A,B,C⟩:=h;obtain⟨X,k⟩:=j.wM K;refine(IX D d y w L (by omega)).mono ?_;rintro e x ⟨rfl,q,hd,r⟩;have M:=j.pO y;have G:=j.get y;unfold Dv.NN at hd;unfold Rk.sync Rk.on;rw[M] at hd ⊢;cases hu:R.up with
 |false =>
  rw[hu] at hd;simp only[l9] at hd ⊢;rw[cd (by decide)] at hd;subst hd;exact⟨rfl,gd.fD (Q:=R) z A B C r j.dU⟩
 |true =>
  rw[hu] at hd;simp only[Bool.true_eq_false,yI] at hd ⊢;cases H:Rd.dp R.now y with
  |none =>
   rw[H] at hd;simp only at hd ⊢;rw[cd (by decide)] at hd;subst hd;exact⟨rfl,gd.fD (Q:=R) z A B C r j.dU⟩
  |some i =>
   rw[H] at hd G;simp only[l9] at hd ⊢;obtain⟨f,N,P,rfl⟩:=hd;have I:f=u i:=by rw[P] at G;exact iP G
   have l:i<R.files.length:=DJ j.ok H;have m:i<R.dU.files.length:=by rw[(Rd.jv R).1];exact l
   subst I;rw[j.F i l] at r;have S:=j.dU.nD m (R.fl i).bytes (R.fl i).bytes.size TG N;rw[Rd.zo];exact⟨rfl,gd.fD (Q:=R) z A B C r S⟩
theorem Ik(M w:TJ)(D E:Nat)(R R':Rk)(O:Nat->Prop)(n b:Nat)(y t:TM)(h:gd M w D E R R' O)(N:Sm R n b)(k:n<=1000000000)(hb:b<=2097152)(P:t.size<=1048576):TL prog 141 #[.pointer (some ⟨D,0,none⟩),.string y,.string t] w (DP M D E (R.append y t).2 R' O (R.append y t).1):=by
 obtain⟨d,m,x,s,o,S,j,A,B,C,G⟩:=h;obtain⟨g,l2⟩:=j.wM N;have hu:=j.uF N;refine(BU D d y t w S (by omega) (λp T=>by have:=hu p T;omega) (by omega)).mono ?_;rintro e w' ⟨rfl,d',hd,r⟩;have U:=j.pO y;have I:=j.get y;have V:=j.used;unfold Dv.Ki at hd;unfold Dv.Oa at hd ⊢;unfold Rk.append Rk.on;rw[U,V,j.q] at hd ⊢;cases hu:R.up with
 |false =>
  rw[hu] at hd;simp only[l9] at hd ⊢;rw[cd (show ¬(9:Int)=0 by decide)] at hd ⊢;rw[cd (show ¬(9:Int)=0 by decide)] at hd;subst hd;exact⟨rfl,gd.fD (Q:=R) A B C G r j.dU⟩
 |true =>
  rw[hu] at hd;simp only[Bool.true_eq_false,yI] at hd ⊢;cases J:Rd.dp R.now y with
  |none =>
   rw[J] at hd;simp only at hd ⊢;rw[cd (show ¬(11:Int)=0 by decide)] at hd ⊢;rw[cd (show ¬(11:Int)=0 by decide)] at hd;subst hd;exact⟨rfl,gd.fD (Q:=R) A B C G r j.dU⟩
  |some i =>
   rw[J] at hd I;simp only[l9] at hd ⊢;rw[Rd.tY,Rd.Lo,(Rd.jv R).2.2.2];by_cases H:R.cT<(R.use R.now:Int)+t.size
   .rw[cg H] at hd ⊢;rw[cg H];rw[cd (by decide)] at hd;subst hd;exact⟨rfl,gd.fD (Q:=R) A B C G r j.dU⟩
   .rw[cd H] at hd ⊢;rw[cd H];rw[cg rfl] at hd;obtain⟨f,W,K,rfl⟩:=hd;have L:f=m i:=by rw[K] at I;exact iP I
    have l:i<R.files.length:=DJ j.ok J;have u:i<R.dU.files.length:=by rw[(Rd.jv R).1];exact l
    subst L;rw[j.F i l] at r;have z:=j.Fs (m i);rw[j.F i l] at z;have X:=j.dU.nD u ((R.fl i).bytes++t) (R.fl i).safe (by rw[cM];simp only at z;omega) W;rw[Rd.zo];exact⟨rfl,gd.fD (Q:=R) A B C G r X⟩
theorem Fp(m w:TJ)(D E:Nat)(R R':Rk)(O:Nat->Prop)(n b:Nat)(h:gd m w D E R R' O)(C:Sm R n b)(H:n<=1000000000):TL prog 92 #[.pointer (some ⟨D,0,none⟩)] w (DP m D E R.eY.2 R' O R.eY.1):=by
 obtain⟨d,F,I,J,K,G,j,r,u,y,z⟩:=h;obtain⟨L,M⟩:=j.wM C;refine(AQ D d w G (by omega)).mono ?_;rintro e N ⟨rfl,P,hd,A⟩;unfold Dv.Nu at hd;unfold Dv.OU;unfold Rk.eY;rw[j.up] at hd ⊢;cases hu:R.up with
 |false =>
  rw[hu] at hd;simp only[Td,yI,l9] at hd ⊢;subst hd;exact⟨rfl,gd.fD (Q:=R) r u y z A j.dU⟩
 |true =>
  rw[hu] at hd;simp only[Bool.true_eq_false,yI,l9] at hd ⊢;obtain⟨l,rfl⟩:=hd;have B:=j.dU.sy l;rw[Rd.tY] at B;exact⟨rfl,gd.fD (Q:=R) r u y z A B⟩
end Pk
namespace Pk
open Go.RowKit
open Sd (Tb)
open Rd (Rk tab e0)
open Dk (Kept du)
theorem Is.rd{d:Dv}{R:Rk}{b:Nat->Nat}(h:Is d R b)(a:TM):d.rd a=R.rd a/\d.EV a=R.EV a:=by
 unfold Dv.rd Dv.EV Rk.rd Rk.EV;rw[h.down,h.get];cases R.down with
 |true=>exact⟨rfl,rfl⟩
 |false =>
  cases e:Rd.dp R.now a with
  |none=>exact⟨rfl,rfl⟩
  |some i =>
   refine⟨?_,rfl⟩
   show (d.F (b i)).bytes=_
   rw[h.F i (DJ h.ok e)];rfl
def NP(b:TJ)(D E:Nat)(Q R:Rk)(O:Nat->Prop)(e:Ending)(w':TJ):Prop:=e=.returned (.tuple #[])/\gd b w' D E Q R O
theorem LZ{m w:TJ}{D E:Nat}{R:Rk}{O:Nat->Prop}(q:Int)(h:gd m w D E R R O):TL prog 18 #[.pointer (some ⟨D,0,none⟩),Z Y q] w (NP m D E { R with cT:=q } R O):=by
 obtain⟨d,l,G,I,J,r,b,u,y,z,A⟩:=h;have B:=EZ D d q w r;have hi:Is { d with q:=q } { R with cT:=q } l:=b.same rfl rfl rfl rfl rfl rfl rfl rfl rfl b.down b.arm b.left;have H:=cP (λC (j:oN w C D d { d with q:=q })=>gd.fD (Q:=R) u y z A j hi);clear r b u y z A hi;go_enter func18,ntmps18;go_wp2_with fail;refine B.mono ?_;rintro e C ⟨rfl,j⟩;have F:=cP j;clear j B;go_wp2;exact cw (cu rfl _ _ _) rfl ⟨rfl,(cO H) _ (cO F)⟩
end Pk
namespace Pk
open Go.RowKit
open Sd (Tb)
open Rd (Rk tab e0)
open Dk (Kept du)
variable {n b:Nat}{R:Rk}
theorem Sm.mono{e j:Nat}(h:Sm R n b)(l:n<=e)(hb:b<=j): Sm R e j:=⟨cx h.dir l,cx h.fn l,λf m=>cx (h.file f m) hb,h.ns,h.nc⟩
theorem Sm.dU(h:Sm R n b): Sm R.dU n b:=by
 obtain⟨e,j,l,_⟩:=Rd.jv R;exact⟨by rw[j,l,Rd.tY];exact h.dir,by rw[e];exact h.fn,by rw[e];exact h.file,by rw[j];exact h.ns,by rw[l];exact h.nc⟩
theorem Sm.BZ(h:Sm R n b)(c:Rd.Ch)(j:c.comes.size<=12): Sm { R with dS:=R.dS++[c] } (n+2) b:=by
 refine⟨?_,cx h.fn (by omega),h.file,h.ns,λx l=>?_⟩
 .have m:=h.dir;have r:=Rd.sI R.now c;rw[Rk.qQ];simp only[lN,Tx];omega
 .rcases cJ.1 l with e|e
  .exact h.nc x e
  .rw[eh.1 e];exact j
theorem Sm.nD(h:Sm R n b)(i:Nat)(f:Rd.Fl)(j:Nat)(hb:b<=j)(l:f.bytes.size<=j): Sm (R.nD i f) n j:=by
 refine⟨h.dir,by show (R.files.set i f).length<=n;rw[QX];exact h.fn,λx m=>?_,h.ns,h.nc⟩;rcases List.mem_or_eq_of_mem_set m with e|e
 .exact cx (h.file x e) hb
 .rw[e];exact l
theorem GR{s:TM}(h:Rd.nH s=true):s.size<=12:=by
 unfold Rd.nH at h;simp only[Ns,decide_eq_true_eq] at h;exact h.1.2
theorem Sm.create(h:Sm R n b)(y:TM): Sm (R.create y).2 (n+2) b:=by
 unfold Rk.create;split
 .exact h.dU.mono (by omega) TG
 .split
  .rename_i l;have j:=h.dU.BZ ⟨e0,y,R.dU.files.length⟩ (GR l);refine⟨j.dir,?_,λf l=>?_,j.ns,j.nc⟩
   .have:=h.dU.fn;simp only[Rk.pS,lN,Tx];omega
   .rcases cJ.1 l with e|e
    .exact j.file f e
    .rw[eh.1 e];exact cy _
  .exact h.dU.mono (by omega) TG
theorem Sm.on(h:Sm R n b)(a:TM)(k:Rk->Nat->Int × Rk)(e j:Nat)(l:n<=e)(hb:b<=j)(m:∀i,Rd.dp R.now a=some i->Sm (k R.dU i).2 e j): Sm (R.on a k).2 e j:=by
 unfold Rk.on;split
 .exact h.dU.mono l hb
 .split
  .exact h.dU.mono l hb
  .rename_i r;exact m _ r
theorem Sm.sync(h:Sm R n b)(a:TM): Sm (R.sync a).2 n b:=h.on a _ n b TG TG λi _=>h.dU.nD i _ _ TG (h.dU.fl i)
theorem LL{L:Tb}{a:TM}{i:Nat}(h:Rd.dp L a=some i):(Rd.wo L a).length+1<=L.length:=by
 unfold Rd.dp at h;cases e:L.find? (λp=>decide (p.1=a)) with
 |none=>rw[e] at h;cases h
 |some p =>
  have j:=List.mem_of_find?_eq_some e;have l:decide (p.1=a)=true:=List.find?_some (p:=λp:TM × Nat=>decide (p.1=a)) e;have m:(Rd.wo L a).length<L.length:=by
   unfold Rd.wo;refine List.length_filter_lt_length_iff_exists.2 ⟨p,j,?_⟩;rw[l];decide
  omega
theorem Sm.remove(h:Sm R n b)(a:TM): Sm (R.remove a).2 n b:=h.on a _ n b TG TG λi l=>by
 have j:=h.dU;have r:=j.dir;refine⟨?_,j.fn,j.file,j.ns,λx m=>?_⟩
 .have e:Rd.ap R.dU.now ⟨a,e0,0⟩=Rd.wo (Rd.wo R.dU.now a) e0:=by unfold Rd.ap;rw[cg rfl]
  have u:=Rd.qx (Rd.wo R.dU.now a) e0;have y:=LL (L:=R.dU.now) (a:=a) (i:=i) (by rw[Rd.tY];exact l);rw[Rk.qQ,e];simp only[lN,Tx];omega
 .rcases cJ.1 m with e|e
  .exact j.nc x e
  .rw[eh.1 e];exact cy _
theorem Sm.rename(h:Sm R n b)(a c:TM): Sm (R.rename a c).2 (n+2) b:=by
 unfold Rk.rename;split
 .exact h.dU.mono (by omega) TG
 .rename_i l;cases hu:R.up with
  |false=>unfold Rk.on;rw[hu,cg rfl];exact h.dU.mono (by omega) TG
  |true =>
   have j:Rd.nH c=true:=by
    cases j:Rd.nH c with
    |true=>rfl
    |false=>exact absurd ⟨hu,j⟩ l
   refine h.on a _ (n+2) b (by omega) TG λi _=>?_
   by_cases e:a=c
   .simp only[cg e];exact h.dU.mono (by omega) TG
   .simp only[cd e];exact h.dU.BZ _ (GR j)
theorem Li{j:List Rd.Ch}:∀(L:Tb),(∀p∈L,p.1.size<=12)->(∀c∈j,c.comes.size<=12)->∀p∈j.foldl Rd.ap L,p.1.size<=12:=by
 induction j with
 |nil=>intro L h _;exact h
 |cons c j m =>
  intro L h l;refine m _ (λp r=>?_) (λx u=>l x (ts _ u));rcases Rd.ze r with e|⟨_,e⟩
  .exact h p e
  .rw[e];exact l c mz
theorem Sm.N9(h:Sm R n b)(k:Nat): ∀p∈R.dir k,p.1.size<=12:=by
 unfold Rk.dir;exact Li _ (λp e=>h.ns p (Rd.im.1 e).1) (λc j=>h.nc c (Tk j))
theorem Sm.eY(h:Sm R n b): Sm R.eY.2 n b:=by
 unfold Rk.eY;split
 .exact h.dU
 .have e:=h.dU;have j:=Rd.uw R R.dS.length;have m:=h.dir;refine⟨?_,e.fn,e.file,h.N9 _,λc l=>by cases l⟩
  show R.now.length+0+(Rd.wo R.now e0).length<=n
  have r:=Rd.qx R.now e0;have u:R.now.length<=R.safe.length+R.dS.length:=j;omega
theorem Is.new(q:Int):Is (d0 q) ⟨[],[],[],q,-1,false⟩ (λi=>i):=⟨rfl,rfl,rfl,rfl,rfl,λi j hi=>(by cases hi),λi hi=>(by cases hi),λf=>b7 _,rfl,Or.inr (Or.inl ⟨rfl,rfl⟩),⟨by show (-1:Int)<=-1;omega,by show (-1:Int)<=_;omega⟩,Rd.L9 q,λc e=>(by cases e)⟩
theorem pP.new{w l:TJ}{q:Int}(m:TI w l)(h1:lB l (w.heap.size+1) (d0 q)):∃O,pP l (w.heap.size+1) 0 ⟨[],[],[],q,-1,false⟩ O/\∀k,O k->w.heap.size<=k:=by
 refine⟨λk=>ot (w.heap.size+1) (d0 q) k\/tT 0 (.slice none 0 0) (.slice none 0 0) (.slice none 0 0) k,⟨d0 q,λi=>i,_,_,_,h1,Is.new q,trivial,λk _ r=>r,λk=>Iff.rfl⟩,λk j=>?_⟩;rcases j with j|j
 .rcases j with e|e|e|e|⟨f,u,_⟩
  .omega
  .simp[d0,Value.ownBlock] at e
  .simp[d0,Value.ownBlock] at e
  .simp[d0,Value.ownBlock] at e
  .cases u
 .exact False.elim j
end Pk
namespace Pk
open Go.RowKit
open Sd (Tb)
open Rd (Rk tab e0)
open Dk (Kept du)
def jo(w:TJ)(D E:Nat)(Q R:Rk)(O:Nat->Prop):Prop := ∃d e j l m,lB w D d/\Is d Q e/\EH w E R j l m/\(∀k,ot D d k->¬tT E j l m k)/\∀k,O k↔ot D d k\/tT E j l m k
structure fy (w:TJ) (O:Nat->Prop) (w':TJ) (O':Nat->Prop):Prop where
 kept:Kept w w' (λk=>¬O k)
 own:∀k,O' k->O k\/w.heap.size<=k
theorem fy.refl(w:TJ)(O:Nat->Prop):fy w O w O:=⟨Kept.refl _ _,λk e=>Or.inl e⟩
variable {a:TJ}{O:Nat->Prop}
theorem fy.trans{b c:TJ}{P Q:Nat->Prop}(h:fy a O b P)(k:fy b P c Q): fy a O c Q:=by
 have j:=h.kept.size;refine⟨vw h.kept k.kept h.own,λi hi=>?_⟩;rcases k.own i hi with e|e
 .exact h.own i e
 .exact Or.inr (by omega)
theorem fy.below{b:TJ}(O:Nat->Prop)(hb:TI a b): fy a O b O:=⟨Kept.below hb _,λk e=>Or.inl e⟩
theorem fy.far{b:TJ}{P:Nat->Prop}(h:fy a O b P){g:Nat}(j:g<a.heap.size)(l:¬O g): b.heap[g]?=a.heap[g]?/\g<b.heap.size/\¬P g:=⟨h.kept.block g j l,dT j h.kept.size,λm=>by rcases h.own g m with e | e;exact l e;omega⟩
variable {R Q:Rk}{w:TJ}{E D:Nat}
theorem jo.half(h:jo w D E Q R O): gd w w D E Q R O:=by
 obtain⟨d,e,j,l,m,r,u,y,z,A⟩:=h;exact⟨d,e,j,l,m,r,u,y,z,Kept.refl _ _,λk B=>Or.inl ((A k).2 B)⟩
theorem gd.two{j:TJ}(h:gd j w D E Q R O): ∃l,jo w D E Q R l/\fy j O w l:=by
 obtain⟨d,e,m,r,u,y,z,A,B,C,F⟩:=h;exact⟨λk=>ot D d k\/tT E m r u k,⟨d,e,m,r,u,y,z,A,B,λk=>Iff.rfl⟩,C,F⟩
theorem jo.lt(h:jo w D E Q R O){k:Nat}(j:O k): k<w.heap.size:=by
 obtain⟨d,l,u,y,z,m,A,B,C,r⟩:=h;rcases(r k).1 j with e|e
 .exact Ef m e
 .exact False.elim e
theorem jo.below{w':TJ}(h:jo w D E Q R O)(hb:TI w w'): jo w' D E Q R O:=by
 obtain⟨d,e,j,l,m,r,u,y,z,A⟩:=h;exact⟨d,e,j,l,m,r.below hb,u,y.below hb,z,A⟩
def TP(w:TJ)(D E:Nat)(Q R:Rk)(O:Nat->Prop)(n:Int)(e:Ending)(w':TJ):Prop:=e=.returned (Z Y n)/\∃j,jo w' D E Q R j/\fy w O w' j
theorem DP.tp{n:Int}{e:Ending}{w':TJ}(h:DP w D E Q R O n e w'): TP w D E Q R O n e w':=⟨h.1,h.2.two⟩
variable {n b:Nat}
theorem IM(y:TM)(h:jo w D E Q R O)(j:Sm Q n b)(l:n<=1000000000)(m:y.size<=1048576):TL prog 140 #[.pointer (some ⟨D,0,none⟩),.string y] w (TP w D E (Q.create y).2 R O (Q.create y).1):=(Jz w w D E Q R O n b y h.half j l m).mono λe u r=>r.tp
theorem qY(y:TM)(h:jo w D E Q R O)(j:Sm Q n b)(l:n<=1000000000)(m:y.size<=1048576):TL prog 91 #[.pointer (some ⟨D,0,none⟩),.string y] w (TP w D E (Q.remove y).2 R O (Q.remove y).1):=(IL w w D E Q R O n b y h.half j l m).mono λe u r=>r.tp
theorem Gx(x y:TM)(h:jo w D E Q R O)(j:Sm Q n b)(l:n<=1000000000)(m:x.size<=1048576)(r:y.size<=1048576):TL prog 95 #[.pointer (some ⟨D,0,none⟩),.string x,.string y] w (TP w D E (Q.rename x y).2 R O (Q.rename x y).1):=(Ib w w D E Q R O n b x y h.half j l m r).mono λe z u=>u.tp
theorem Oj(y:TM)(h:jo w D E Q R O)(j:Sm Q n b)(l:n<=1000000000):TL prog 142 #[.pointer (some ⟨D,0,none⟩),.string y] w (TP w D E (Q.sync y).2 R O (Q.sync y).1):=(NA w w D E Q R O n b y h.half j l).mono λe r m=>m.tp
theorem G8(y t:TM)(h:jo w D E Q R O)(j:Sm Q n b)(l:n<=1000000000)(hb:b<=2097152)(ht:t.size<=1048576):TL prog 141 #[.pointer (some ⟨D,0,none⟩),.string y,.string t] w (TP w D E (Q.append y t).2 R O (Q.append y t).1):=(Ik w w D E Q R O n b y t h.half j l hb ht).mono λe r m=>m.tp
theorem sN(h:jo w D E Q R O)(j:Sm Q n b)(l:n<=1000000000):TL prog 92 #[.pointer (some ⟨D,0,none⟩)] w (TP w D E Q.eY.2 R O Q.eY.1):=(Fp w w D E Q R O n b h.half j l).mono λe r m=>m.tp
theorem jo.NR(h:jo w D E Q R O): Q.Ok/\(-1<=Q.left/\Q.left<=9223372036854775807):=by
 obtain⟨d,j,l,m,r,u,e,y,z,A⟩:=h;exact⟨e.ok,e.left⟩
theorem OS(y:TM)(h:jo w D E Q R O)(m:Sm Q n b)(A:n<=1000000000):TL prog 117 #[.pointer (some ⟨D,0,none⟩),.string y] w λe r=>e=.returned (.tuple #[.string (Q.rd y),Z Y (Q.EV y)])/\TI w r:=by
 obtain⟨d,u,B,C,F,z,j,G,H,I⟩:=h;obtain⟨J,K⟩:=j.wM m;have l:=uP D d y w z (by omega);rw[(j.rd y).1,(j.rd y).2] at l;exact l
theorem Js(h:jo w D E Q R O)(A:Sm Q n b)(I:n<=1000000000):TL prog 44 #[.pointer (some ⟨D,0,none⟩)] w λe u=>∃v,e=.returned (.tuple #[v,Z Y Q.nh])/\u.ownsRow w.heap.size 9 1 v Q.fH.length (Rd.strs Q.fH)/\TI w u:=by
 obtain⟨d,B,J,K,L,z,l,M,N,P⟩:=h;obtain⟨S,T⟩:=l.wM A;cases j:Q.down with
 |true =>
  have m:=E5 D d w z (l.down.trans j);have r:Q.fH=[]:=by unfold Rk.fH;rw[cg j]
  have y:Q.nh=9:=by unfold Rk.nh;rw[cg j]
  rw[r,y];exact m.mono λe u ⟨C,F⟩=>⟨_,C,fc _ _ _ _,F⟩
 |false =>
  have m:=Hq D d w z (by omega) (l.down.trans j);have r:Q.fH=(tab Q.now).map (·.1):=by unfold Rk.fH;rw[cd (by rw[j];decide)]
  have y:Q.nh=0:=by unfold Rk.nh;rw[cd (by rw[j];decide)]
  have G:d.names.map (λp=>Value.string p.1)=Rd.strs Q.fH:=by rw[l.names,r];unfold Rd.strs;rw[List.map_map,List.map_map];rfl
  have H:d.names.length=Q.fH.length:=by rw[l.names,r,rY,rY]
  rw[G,H] at m;rw[y];exact m
end Pk
end Go.Proofs.YtgkkdpegcieakaaGreatDoor
