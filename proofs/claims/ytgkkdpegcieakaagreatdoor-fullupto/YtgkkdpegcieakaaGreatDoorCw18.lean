import Derived.Test.YtgkkdpegcieakaaGreatDoorCw17
set_option linter.all false
set_option maxRecDepth 100000
set_option maxHeartbeats 16000000
namespace Go.Proofs.YtgkkdpegcieakaaGreatDoor
open Go.Proofs.Tryz
open Value renaming int→Z,slice→J,string→H,pointer→WV,tuple→WX
open Ending renaming returned→WZ
open Obj renaming cells→D
open Option renaming none→U,some→S
open Bool renaming true→W8,false→W9
open List renaming length→Xg
open _root_.Array renaming size→K
open World renaming heap→E
open IntKind renaming i64→Y
open Go renaming World→WR,Value→WS,Calls→WT
namespace Pk
open Go.RowKit Go.Shelf
open Sd (Tb)
open Dk
attribute [local go_sem] Oper.semAt_some
theorem r8{N:Nat}{e:Nat->Prop}{w:WR}(j:N<=K (E w))(W:WR)(l:Nat)(o b:Obj)(m:K (E w)<=l)(h:W.heap[l]?=S o)(_:o.isCells=W9)(_:o.isWalk=W9):fU N e W (W.putObj l b):=fU.putObj W l o b (by omega) h
theorem uh{β : Type}(B k:Nat)(f : β->Obj)(m:∀s,(f s).isCells=W8):OwnFrom B (λ(s : β) W=>W.heap[k]?=S (f s)):=λs W A r b u y=>by
 have b:W.heap[k]?=S (f s):=b;have z:k<K (E W):=(Ug.1 b).1;refine(u.block k z (λe=>?_)).trans b;obtain⟨_,o,j,l⟩:=y k e.symm;rw[b] at j;have:f s=o:=Ut j;rw[<-this,m s] at l;cases l
def used(F:Nat->Fl)(T:Sd.Tb):Nat:=(T.map λp=>(F p.2).bytes.size).sum
theorem Fx(F:Nat->Fl){T:Sd.Tb}(b:List { x:WU × Nat // x∈T })(hu:∀p∈T,(F p.2).bytes.size<=4194304):used F (b.map (·.1))<=Xg b*4194304:=by
 induction b with
 |nil=>simp[used]
 |cons p t e =>
  have h:=hu p.1 p.2;simp only[used,U4,V8,Uf,Nat.succ_mul] at e ⊢;omega
theorem Br(b:Nat)(d:Dv)(w:WR)(h:kK w b d)(hl:Xg d.names<=1000000000)(hu:∀p∈d.names,(d.F p.2).bytes.size<=4194304):WT prog 33 #[WV (S ⟨b,0,U⟩)] w λe w'=>e=WZ (Z Y (used d.F d.names))/\WQ w w':=by
 refine(Vq (n:=5)).1 ?_;refine callsIn_of_wp_marks func33 O trivial ?_ O;simp only[ntmps33,VD,Uf,Vl,Nat.reduceAdd,Nat.reduceSub,VJ,VK,VL,VM,U2,UM];obtain⟨p,R,T,I⟩:=Dk.dS (h.rn);have HD:=cT h;have s:b<K (E w):=cV h.blk
 gi_wp2_with (refine⟨trivial,?_⟩;gi_at_call 55;refine(Dk.qw _ _ trivial O _ _).mono ?_;rintro e w' ⟨rfl,rfl⟩)
 obtain⟨L,C⟩:∃L,((w.alloc (D #[Z Y 0] 3)).alloc (D #[WV (S ⟨b,1,U⟩)] 131))=L:=⟨_,rfl⟩
 have ah:K (E L)=K (E w)+2:=by rw[<-C];simp
 have M:WQ w L:=by rw[<-C];exact((T4 _ w).alloc WN _).alloc (by simp) _
 have o:L.heap[K (E w)]?=S (D #[Z Y 0] 3 (0,0)):=by
  rw[<-C,Ur _ _ _ (by simp)];exact Vz w _
 have aa:L.cell? ⟨K (E w)+1,0,U⟩=S (WV (S ⟨b,1,U⟩)):=by
  have:=Vz (w.alloc (D #[Z Y 0] 3)) (D #[WV (S ⟨b,1,U⟩)] 131);rw[Uv,C] at this;simp[World.cell?,this]
 have ab:L.cell? ⟨b,1,U⟩=S (J p (Xg d.names) R):=by
  rw[M.cell (p:=⟨b,1,U⟩) s,T5 w b 1 _ _ _ h.blk,<-T];rfl
 have ad:∀j (hj:j<Xg d.names),∃g,p=S ⟨g,0,U⟩/\g<K (E w)/\True/\L.cell? ⟨g,j*2,U⟩=S (H d.names[j].1)/\L.cell? ⟨g,j*2+1,U⟩=S (eD d.names[j].2):=λj hj=>by
  obtain⟨g,e,c0,c1⟩:=I j hj;have hg:=Ui w _ c0;exact⟨g,e,hg,trivial,(M.cell (p:=⟨g,j*2,U⟩) hg).trans c0,(M.cell (p:=⟨g,j*2+1,U⟩) hg).trans c1⟩
 rw[C];clear C I T h;refine wpIn_rangeFunc_ownG O (by omega) (gf:=96) (lb := #[WV (S ⟨K (E w)+1,0,U⟩)]) O trivial (enters_of func96 (by kernel_rfl) O)
  (Dk.kI _ _ trivial O (by omega) (K (E w)+1) b 1 (K (E w)) (λ_=>True) p R d.names hl L (by omega) (by omega) (by omega) aa ab ad) (λh k=>h.trans k) (r8 (by omega)) (T4 _ _) (λ_=>O)
  (λu W=>W.heap[K (E w)]?=S (D #[Z Y (used d.F (u.map (·.1)))] 3 (0,0))/\Below (K (E w)) L W)
  (λ_ _ _=>False)
  (OwnFrom.and (uh _ _ (λu:List { x:WU × Nat // x∈d.names }=>Obj.cells #[Z Y (used d.F (u.map (·.1)))] 3 (0,0)) (λ_=>O)) (ownFrom_below (by omega) (by omega)))
  (λ_ _ _ _ _ hs _ _=>hs)
  ⟨o,T4 _ _⟩
  (λy=>{ tmps := #[WV (S ⟨b,0,U⟩),undef,Z Y 0,WV (S ⟨K (E w),0,U⟩),undef,eD y.1.2,WV (S ⟨b,0,U⟩),WV (S ⟨b,0,U⟩),WV (S ⟨b,1,U⟩),.func (.func 96) #[] #[WV (S ⟨K (E w)+1,0,U⟩)],H y.1.1,eD y.1.2,undef,undef,undef,undef,undef,undef,undef,undef],defers:=[] }) ?assign ?body ?done ?stop
 case assign =>
  intro l y W m hK
  gi_wp2
  exact hK
 case body =>
  rintro l' u ⟨⟨ya,B⟩,hy⟩ W ⟨z,N⟩ ai;have hd:=(cS HD).below (M.trans N);have P:=hd.files B (hd.Hb (ya,B) hy);obtain⟨pb,cb,V⟩:=gw P.row;have Q:=P.blk;rw[V] at Q;have k0:W.cell? ⟨B,0,U⟩=S (J pb (d.F B).bytes.size cb):=by rw[T5 W _ 0 _ _ _ Q];rfl
  have u0:W.cell? ⟨K (E w),0,U⟩=S (Z Y (used d.F (u.map (·.1)))):=by rw[T5 W _ 0 _ _ _ z];rfl
  have uf:W.frozen? ⟨K (E w),0,U⟩=W9:=by simp[World.frozen?,z]
  have X:=hu (ya,B) hy;have ae:used d.F (u.map (·.1))<=4194304000000000:=Uc (Fx d.F u hu) (Uc (Wq 4194304 (show (Xg u)<=1000000000 by omega)) (by decide));have A:used d.F ((u++[(⟨(ya,B),hy⟩:{ x:WU × Nat // x∈d.names })]).map (·.1))=used d.F (u.map (·.1))+(d.F B).bytes.size:=by simp[used]
  generalize used d.F (u.map (·.1))=r at z u0 ae A;have X:(d.F B).bytes.size<=4194304:=X;have HN:=cT A;have HU:=cT z;have HB:=cT N;clear hd P Q V A z N;unfold eD
  gi_wp2
  gi_region
  all_goals
   have ew:IntKind.i64.wrap ((r:Int)+((d.F B).bytes.size:Int))=((r+(d.F B).bytes.size:Nat):Int):=by rw[Uy];omega
   rw[ew];have af:KeepsOthers W (W.setCell ⟨K (E w),0,U⟩ (Z Y ((r+(d.F B).bytes.size:Nat):Int))).drew:=⟨(KeepsOthers.setCell W _ _).1,(KeepsOthers.setCell W _ _).2⟩
   have ag:(W.setCell ⟨K (E w),0,U⟩ (Z Y ((r+(d.F B).bytes.size:Nat):Int))).drew.heap[K (E w)]?=S (D #[Z Y ((r+(d.F B).bytes.size:Nat):Int)] 3 (0,0)):=Ue W (K (E w)) 0 _ _ _ (cS HU);have G:Below (K (E w)) W (W.setCell ⟨K (E w),0,U⟩ (Z Y ((r+(d.F B).bytes.size:Nat):Int))).drew:=((T4 (K (E w)) W).setCell (p:=⟨K (E w),0,U⟩) WN _).drew;exact⟨af.from _,⟨G.os,G.tape,G.output,G.size,λk hk _=>G.block k hk⟩,by rw[cS HN];exact ag,(cS HB).trans G⟩
 case done =>
  rintro Dd ys W aj q ⟨z,N⟩ hK;have z:W.heap[K (E w)]?=S (D #[Z Y (used d.F d.names)] 3 (0,0)):=by
   rw[q,WL] at z;exact z
  have u0:W.cell? ⟨K (E w),0,U⟩=S (Z Y (used d.F d.names)):=by rw[T5 W _ 0 _ _ _ z];rfl
  have t:=M.trans N;clear q z
  gi_wp2
  refine⟨by simp,.inl ⟨_,_,O,run_takeDeferred hK,?_⟩⟩;refine⟨Z Y (used d.F d.names),by simp[results,results33,go_sem],O,?_⟩;exact t.grown (Wh W Dd _) t.size (λk hk=>by cases hk;omega)
 case stop =>
  intro D' c u W _ _ h;exact h.elim
end Pk
namespace Pk
open Go.RowKit Go.Shelf
open Sd (Tb)
open Dk
theorem info_u8:(prog.info? 5).map (λi=>(i.zero,i.size,i.bytes))=S (S (Z .u8 0),1,1):=by kernel_rfl
theorem El{P:Program}(w:WR)(base:Nat)(t u F e:TypeId)(i:TypeInfo)(ht:P.underlying t=S (.slice e))(hu:P.underlying u=S .string)(hi:P.info? e=S i)(M:i.zero=S (Z .u8 0))(b:i.size=1)(y:i.bytes=1)(v:WS)(n:Nat)(C:List WS)(l:w.ownsRow base e 1 v n C)(s:WU)(N:n+s.size<=140737488355328)(z:base<=K (E w)):∃p c G,(Builtin.append_ #[t,u] F #[v,H s]).run P w=.ok (J p (n+s.size) c) G/\G.ownsRow base e 1 (J p (n+s.size) c) (n+s.size) (C++Lib.strCells s)/\w.grownBy G v.ownBlock/\
   ((Value.slice p (n+s.size) c).ownBlock=v.ownBlock\/(Value.slice p (n+s.size) c).ownBlock=S (K (E w))):=by
 obtain⟨o,G,A,W,k,I⟩:=Lib.run_append_own_string (P:=P) w base t u F e i ht hu hi M b y v n C l s (by unfold maxLen;omega) N z;obtain⟨p,c,rfl⟩:=gw W;refine⟨p,c,G,A,W,k,?_⟩;have Q:Xg C=n:=by simpa using l.1
 rcases l.2 with ⟨rfl,rfl⟩|⟨g,r,L,rfl,x,R,q,h,T,V⟩
 .by_cases f:s.size=0
  .have:=I.2 ⟨O,f⟩;rw[this];exact Or.inl O
  .have m:=run_append_nil_string (P:=P) w t u F e i (Z .u8 0) ht hu hi M s (by omega) (by omega) (by rw[y];omega);rw[m] at A;injection A with e1 e2;rw[<-e1];exact Or.inr O
 .by_cases B:n+s.size<=r
  .have X:L.size=r:=by simpa using T
   have m:=Lib.run_append_room_string (P:=P) w t u F e i ht hu hi b g n r L R s B (by omega);rw[m] at A;injection A with e1 e2;rw[<-e1];exact Or.inl O
  .have holds:∀j u,C[j]?=S u->w.cell? ((⟨g,0,U⟩:Addr).add j)=S u:=l.cells (g:=g) O;have m:=Lib.run_append_grow_string (P:=P) w t u F e i (Z .u8 0) ht hu hi M ⟨g,0,U⟩ n r C (by rw[b];simpa using Q) holds s (by omega) (by omega) (by rw[y];exact growslice_fits (by omega) (by omega));rw[m] at A;injection A with e1 e2;rw[<-e1];exact Or.inr O
theorem wY(a b:WU):byteCells (a++b)=byteCells a++Lib.strCells b:=by
 unfold byteCells Lib.strCells;rw[VN,Wd,Vn]
def Dv.PH(d:Dv)(y t:WU):Int:=if d.pP y=0 then (if d.q<(used d.F d.names:Int)+t.size then 12 else 0) else d.pP y
def Dv.Ml(d:Dv)(y t:WU)(b:Dv):Prop:=if d.PH y t=0 then ∃f e,Sd.jy d.names y=S f/\b=d.dY.n9 f ⟨(d.F f).bytes++t,(d.F f).safe⟩ e else b=d.dY
theorem Eu(b:Nat)(d:Dv)(y t:WU)(w:WR)(h:kK w b d)(hl:Xg d.names<=1000000000)(hu:∀p∈d.names,(d.F p.2).bytes.size<=4194304)(ht:t.size<=4194304):WT prog 141 #[WV (S ⟨b,0,U⟩),H y,H t] w (sX w b d (d.PH y t) (d.Ml y t)):=by
 obtain⟨i0,hi,aj,ak,an⟩:=UB info_u8;have z:=mv b d y w h hl;obtain⟨en,_,ec,ef,eF,eq⟩:=jG d;by_cases h0:d.pP y=0
 .obtain⟨f,hf,ai⟩:=BK h.sn h0;have M:d.PH y t=if d.q<(used d.F d.names:Int)+t.size then 12 else 0:=by unfold Dv.PH;rw[T0 h0]
  have HM:=cT (h.Hb (y,f) ((Sd.fO h.sn).1 hf));have ax:(d.F f).bytes.size<=4194304:=hu (y,f) ((Sd.fO h.sn).1 hf);have ao:used d.F d.names<=4194304000000000:=by
   have Q:=Fx d.F d.names.attach hu;rw[WL,List.length_attach] at Q;exact Uc Q (Uc (Wq 4194304 hl) (by decide))
  have R:=λW (hW:kK W b d.dY)=>Br b d.dY W hW (by rw[en];exact hl) (by rw[en,eF];exact hu)
  rw[en,eF] at R;rw[ai,h0] at z;unfold eV eD at z;obtain⟨j,hU⟩:∃j,used d.F d.names=j:=⟨_,rfl⟩
  rw[hU] at M ao R;obtain⟨q,af⟩:∃q,d.q=q:=⟨_,rfl⟩
  rw[af] at M;have HF:=cT hf;have HC:=cT (And.intro ef (And.intro eF (eq.trans af)));clear h h0 hf ai hU en ec ef eF eq af hu;by_cases A:q<(j:Int)+(t.size:Int)
  .rw[T0 A] at M;have HD:Hid (d.Ml y t d.dY):=by show Dv.Ml _ _ _ _;unfold Dv.Ml;rw[TZ (by rw[M];decide)]
   rw[M];have ay:decide (IntKind.i64.wrap ((j:Int)+(t.size:Int)) > q)=W8:=UH (by rw[Uy];omega);have av:q<IntKind.i64.wrap ((j:Int)+(t.size:Int)):=by rw[Uy];omega
   clear M A;go_enter func141,ntmps141;go_wp2_with fail;refine z.mono ?_;rintro e s ⟨rfl,Q⟩;have C:=Q.at';have o:=C.blk;have B:b<K (E s):=cV o;have q0:s.cell? ⟨b,0,U⟩=S (Z Y q):=by rw[C.cell.1,(cS HC).2.2]
   have T:=cT Q;have ag:=cT R;clear z Q C o R;go_wp2_with fail
   go_region_with (go_at_call 33;refine((cS ag) _ (by first|exact(cS T).at'|exact(cS T).at'.below WO.drew)).mono ?_;rintro e g ⟨rfl,G⟩;have q2:g.cell? ⟨b,0,U⟩=S (Z Y q):=(G.cell (p:=⟨b,0,U⟩) (by first|exact B|simpa using B)).trans q0)
   all_goals
    have m:WQ s g:=(T4 _ s).drew.trans (G.mono (by simp));have HB:=cT m;clear G m;go_wp2;go_ret;exact⟨O,_,cS HD,(cS T).trans (oO.below (cS T).at' (cS HB))⟩
  .rw[TZ A] at M;have HD:Hid (∀v',d.Ml y t (d.dY.n9 f ⟨(d.F f).bytes++t,(d.F f).safe⟩ v')):=λv'=>by unfold Dv.Ml;rw[T0 M];exact⟨f,v',cS HF,O⟩
   rw[M];have az:(j:Int)+(t.size:Int)<=q:=by omega
   have aw:IntKind.i64.wrap ((j:Int)+(t.size:Int))<=q:=by rw[Uy];omega
   clear M A;go_enter func141,ntmps141;go_wp2_with fail;refine z.mono ?_;rintro e s ⟨rfl,Q⟩;have C:=Q.at';have o:=C.blk;have B:b<K (E s):=cV o;have q0:s.cell? ⟨b,0,U⟩=S (Z Y q):=by rw[C.cell.1,(cS HC).2.2]
   have T:=cT Q;have ag:=cT R;clear z Q C o R;go_wp2_with fail
   go_region_with (go_at_call 33;refine((cS ag) _ (by first|exact(cS T).at'|exact(cS T).at'.below WO.drew)).mono ?_;rintro e g ⟨rfl,G⟩;have q2:g.cell? ⟨b,0,U⟩=S (Z Y q):=(G.cell (p:=⟨b,0,U⟩) (by first|exact B|simpa using B)).trans q0)
   all_goals
    have m:WQ s g:=(T4 _ s).drew.trans (G.mono (by simp));have aa:=(cS T).at'.below m;have V:f∈d.dY.fs:=by rw[(cS HC).1];exact cS HM
    have X:=aa.files f V;rw[(cS HC).2.1] at X;obtain⟨pb,cb,I⟩:=gw X.row;have L:=X.blk;rw[I] at L;have N:=X.row;rw[I] at N;have k0:g.cell? ⟨f,0,U⟩=S (J pb (d.F f).bytes.size cb):=by rw[T5 g _ 0 _ _ _ L];rfl
    have kf:g.frozen? ⟨f,0,U⟩=W9:=by simp[World.frozen?,L]
    have aq:f<K (E g):=cV L;obtain⟨p3,c3,w3,hr,ab,ad,ae⟩:=El (P:=prog) g 0 125 9 125 5 i0 underlying125 underlying9 hi aj ak an (J pb (d.F f).bytes.size cb) _ _ N t (by omega) (Ud _);have ar:S f≠(Value.slice pb (d.F f).bytes.size cb).ownBlock:=λe=>by
     obtain⟨c',ah,_⟩:=dh N e.symm;exact de ah L (by decide) O
    have u:w3.heap[f]?=S (D #[J pb (d.F f).bytes.size cb,Z Y (d.F f).safe] 127 (0,0)):=(ad.block f aq ar).trans L;have k3:w3.cell? ⟨f,0,U⟩=S (J pb (d.F f).bytes.size cb):=by rw[T5 w3 _ 0 _ _ _ u];rfl
    have aA:w3.frozen? ⟨f,0,U⟩=W9:=by simp[World.frozen?,u]
    have l:=cT (And.intro m (And.intro I (And.intro ab (And.intro ad (And.intro ae (And.intro u V))))));clear m I ab ad ae u aa X L N G V;go_wp2_with (first
     | (at_builtin;go_must (refine Lib.wpList_append_run _ O (.tmp 32) (.tmp 33) _ _ O _ _ O O _ _ hr ?_))
     |go_in)
    go_ret;obtain⟨m,I,ab,ad,ae,u,V⟩:=cS l;have aa:=(cS T).at'.below m;have X:=aa.files f V;have au:Kept g (w3.setCell ⟨f,0,U⟩ (J p3 ((d.F f).bytes.size+t.size) c3)) (λk=>k≠f/\(d.dY.vb f).ownBlock≠S k):=(Kept.grown ad (λk hk=>by rw[<-I];exact hk.2)).setCell (λhk=>hk.1 O) _;have hx:rH (w3.setCell ⟨f,0,U⟩ (J p3 ((d.F f).bytes.size+t.size) c3)) f ⟨(d.F f).bytes++t,(d.F f).safe⟩ (J p3 ((d.F f).bytes.size+t.size) c3):=by
     refine⟨by rw[Ue w3 f 0 _ _ _ u];rfl,?_⟩
     show World.ownsRow _ 0 5 1 _ ((d.F f).bytes++t).size (byteCells ((d.F f).bytes++t))
     rw[wY,Us];refine U1 ab (λe=>?_) _;obtain⟨c',ah,_⟩:=dh ab e;exact de ah u (by decide) O
    have r:=xF aa V au hx (by
     rcases ae with e|e
     .rw[I];exact Or.inl e
     .exact Or.inr ⟨_,e,TY _⟩)
    exact⟨O,_,(cS HD) _,(cS T).trans ((oO.below (cS T).at' m).trans r)⟩
 .have M:d.PH y t=d.pP y:=by unfold Dv.PH;rw[TZ h0]
  have HD:Hid (d.Ml y t d.dY):=by show Dv.Ml _ _ _ _;unfold Dv.Ml;rw[M,TZ h0]
  obtain⟨n,hn⟩:∃n,d.pP y=n:=⟨_,rfl⟩
  have aB:(n == 0)=W9:=Uh.2 (hn ▸ h0);rw[M];rw[hn] at z ⊢;obtain⟨p,hp⟩:∃p,eV (d.Cu y)=WV p:=by cases d.Cu y <;> exact⟨_,O⟩
  rw[hp] at z;clear h h0 hp hn M;go_enter func141,ntmps141;go_wp2_with fail;refine z.mono ?_;rintro e s ⟨rfl,Q⟩;have T:=cT Q;clear z Q;go_wp2;go_ret;exact⟨O,_,cS HD,cS T⟩
end Pk
namespace Pk
open Go.RowKit Go.Shelf
open Sd (Tb)
open Dk
attribute [local go_sem] Oper.semAt_some
theorem toStr(w:WR)(g n cap:Nat)(t:WU)(l:t.size=n)(h:∀j,j<t.size->w.cell? ⟨g,j,U⟩=S (Z .u8 (Sp.bt t j))):(convert 125 9 (J (S ⟨g,0,U⟩) n cap)).run prog w=.ok (H t) w:=by
 subst l;have m:=run_convert_bytes_arg (P:=prog) w 125 5 underlying125 underlying5 g 0 t.size cap (t.data.toList.map (λb=>(b.toNat:Int))) (by rw[UX,Va];rfl) (λi hi=>by
  rw[UA,h i hi,<-Sp.jQ t i hi,Uo,VX,Uk (by rw[Va];exact hi)]
  rfl) 9 underlying9
 rw[m];have e:strOfNums (t.data.toList.map (λb=>(b.toNat:Int)))=t:=by
  apply Vh;apply VV.1;rw[strOfNums_data,List.map_map];rw[show ((λn:Int=>UInt8.ofNat n.toNat) ∘ λb:UInt8=>(b.toNat:Int))=id from by funext b;simp];simp
 rw[e]
variable {B:Nat}
theorem KD{w:WR}{v:WS}{b:WU}(h:w.ownsRow B 5 1 v b.size (byteCells b)): (convert 125 9 v).run prog w=.ok (H b) w:=by
 rcases h.2 with ⟨rfl,r⟩|⟨g,l,u,rfl,_,C,F,_,y,z⟩
 .have e:b=ByteArray.empty:=by
   apply Vh;exact Array.eq_empty_of_size_eq_zero r
  rw[e];exact run_convert_bytes_nil w 125 5 underlying125 underlying5 0 0 9 underlying9
 .refine toStr w g b.size l b O (λj m=>?_);have A:=h.cellAt j (by omega);rw[A];unfold byteCells;rw[VX,Uk (by rw[Va];exact m),<-Sp.jQ b j m]
  rfl
def Dv.rd(d:Dv)(y:WU):WU:=if d.down=W8 then ⟨#[]⟩ else match Sd.jy d.names y with
 |some f=>(d.F f).bytes
 |none=>⟨#[]⟩
def Dv.GF(d:Dv)(y:WU):Int:=if d.down=W8 then 9 else match Sd.jy d.names y with
 |some _=>0
 |none=>11
theorem wy(b:Nat)(d:Dv)(y:WU)(w:WR)(h:kK w b d)(N:Xg d.names<=1000000000):WT prog 117 #[WV (S ⟨b,0,U⟩),H y] w λe R=>e=WZ (WX #[H (d.rd y),Z Y (d.GF y)])/\WQ w R:=by
 have T:=cT h;obtain⟨_,_,_,_,_,_,Q⟩:=h.cell;cases j:d.down with
 |true =>
  have A:d.rd y=⟨#[]⟩:=by unfold Dv.rd;rw[T0 j]
  have r:d.GF y=9:=by unfold Dv.GF;rw[T0 j]
  rw[j] at Q;rw[A,r];clear h A r j;go_enter func117,ntmps117;go_wp2;go_ret2;exact⟨O,T4 _ _⟩
 |false =>
  rw[j] at Q;have l:=yU b 1 _ _ d.vn d.names y w (h.Kd N);cases z:Sd.jy d.names y with
  |none =>
   have I:Sd.dF d.names y=W9:=by
    cases V:Sd.dF d.names y with
    |false=>rfl
    |true=>obtain⟨_,_,r⟩:=Sd.gn h.sn V;rw[z] at r;cases r
   have A:d.rd y=⟨#[]⟩:=by unfold Dv.rd;rw[TZ (by rw[j];decide),z]
   have r:d.GF y=11:=by unfold Dv.GF;rw[TZ (by rw[j];decide),z]
   rw[I,z] at l;unfold eV at l;rw[A,r];clear h N I z A r j;go_enter func117,ntmps117;go_wp2_with fail;refine l.mono ?_;rintro e P ⟨rfl,M⟩;go_wp2;go_ret2;exact⟨O,M⟩
  |some f =>
   have u:=(Sd.fO h.sn).1 z;have I:Sd.dF d.names y=W8:=Sd.iM.2 ⟨f,u⟩;have W:=cT (h.Hb (y,f) u);have A:d.rd y=(d.F f).bytes:=by unfold Dv.rd;rw[TZ (by rw[j];decide),z]
   have r:d.GF y=0:=by unfold Dv.GF;rw[TZ (by rw[j];decide),z]
   rw[I,z] at l;unfold eV eD at l;rw[A,r];clear h N I z A r u j;go_enter func117,ntmps117;go_wp2_with fail;refine l.mono ?_;rintro e P ⟨rfl,M⟩;have C:=((cS T).below M).files f (cS W);have G:=C.blk;have m:=C.row;obtain⟨X,q,L⟩:=gw m;rw[L] at G m;have s:P.cell? ⟨f,0,U⟩=S (J X (d.F f).bytes.size q):=by rw[T5 P _ 0 _ _ _ G];rfl
   have t:=KD m;clear C G m L l;go_wp2;go_ret2;exact⟨O,M⟩
theorem info_pstr:(prog.info? 9).map (λi=>(i.zero,i.size,i.bytes))=S (S (H ⟨#[]⟩),1,16):=by kernel_rfl
theorem kG{W l:WR}{b:Option Nat}(y:W.grownBy l b)(z:∀r,b=S r->B<=r/\∃o:Obj,W.heap[r]?=S o/\o.isCells=W9){k:Nat}{c:Array WS}{t:TypeId}{p:Nat × Nat}(j:W.heap[k]?=S (D c t p)): l.heap[k]?=S (D c t p):=by
 have A:k<K (E W):=(Ug.1 j).1;rw[y.block k A (λe=>by
  obtain⟨_,o,m,u⟩:=z k e.symm;rw[j] at m;have:Obj.cells c t p=o:=Ut m;rw[<-this] at u;cases u),j]
theorem nE{W z:WR}{j:Option Nat}(C:W.grownBy z j)(F:∀r,j=S r->B<=r/\∃o:Obj,W.heap[r]?=S o/\o.isCells=W9){b e size n:Nat}{v:WS}{A:List WS}(h:W.ownsRow b e size v n A): z.ownsRow b e size v n A:=by
 obtain⟨G,l⟩:=h;refine⟨G,?_⟩;rcases l with l|⟨g,m,u,I,L,y,r⟩
 .exact .inl l
 .exact .inr ⟨g,m,u,I,L,kG C F y,r⟩
def MB(G:Nat)(L:List WU)(W:WR):Prop := ∃v,W.heap[G]?=S (D #[v] 106 (0,0))/\W.ownsRow (G+1) 9 1 v (Xg L) (L.map Value.string)
theorem Kn(b:Nat)(d:Dv)(w:WR)(h:kK w b d)(hl:Xg d.names<=1000000000)(af:d.down=W9):WT prog 44 #[WV (S ⟨b,0,U⟩)] w λe w'=>∃v,e=WZ (WX #[v,Z Y 0])/\w'.ownsRow (K (E w)) 9 1 v (Xg d.names) (d.names.map (λp=>Value.string p.1))/\WQ w w':=by
 refine(Vq (n:=5)).1 ?_;refine callsIn_of_wp_marks func44 O trivial ?_ O;have c6:w.cell? ⟨b,6,U⟩=S (.bool W9):=by rw[<-af];exact h.cell.2.2.2.2.2.2
 simp only[ntmps44,VD,Uf,Vl,Nat.reduceAdd,Nat.reduceSub,VJ,VK,VL,VM,U2,UM];obtain⟨p,s,o,L⟩:=Dk.dS (h.rn);have HD:=cT h;have ag:b<K (E w):=cV h.blk
 gi_wp2_with (refine⟨trivial,?_⟩;gi_at_call 55;refine(Dk.qw _ _ trivial O _ _).mono ?_;rintro e w' ⟨rfl,rfl⟩)
 obtain⟨i0,hi,ah,ai,aj⟩:=UB info_pstr;obtain⟨M,F⟩:∃M,((w.alloc (D #[J U 0 0] 106)).alloc (D #[WV (S ⟨b,1,U⟩)] 131))=M:=⟨_,rfl⟩
 have ax:K (E M)=K (E w)+2:=by rw[<-F];simp
 have P:WQ w M:=by rw[<-F];exact((T4 _ w).alloc WN _).alloc (by simp) _
 have ak:M.heap[K (E w)]?=S (D #[J U 0 0] 106 (0,0)):=by
  rw[<-F,Ur _ _ _ (by simp)];exact Vz w _
 have an:M.cell? ⟨K (E w)+1,0,U⟩=S (WV (S ⟨b,1,U⟩)):=by
  have:=Vz (w.alloc (D #[J U 0 0] 106)) (D #[WV (S ⟨b,1,U⟩)] 131);rw[Uv,F] at this;simp[World.cell?,this]
 have ao:M.cell? ⟨b,1,U⟩=S (J p (Xg d.names) s):=by
  rw[P.cell (p:=⟨b,1,U⟩) ag,T5 w b 1 _ _ _ h.blk,<-o];rfl
 have aq:∀j (hj:j<Xg d.names),∃g,p=S ⟨g,0,U⟩/\g<K (E w)/\True/\M.cell? ⟨g,j*2,U⟩=S (H d.names[j].1)/\M.cell? ⟨g,j*2+1,U⟩=S (eD d.names[j].2):=λj hj=>by
  obtain⟨g,e,c0,c1⟩:=L j hj;have t:=Ui w _ c0;exact⟨g,e,t,trivial,(P.cell (p:=⟨g,j*2,U⟩) t).trans c0,(P.cell (p:=⟨g,j*2+1,U⟩) t).trans c1⟩
 rw[F];clear F L o h;refine wpIn_rangeFunc_ownG O (by omega) (gf:=96) (lb := #[WV (S ⟨K (E w)+1,0,U⟩)]) O trivial (enters_of func96 (by kernel_rfl) O)
  (Dk.kI _ _ trivial O (by omega) (K (E w)+1) b 1 (K (E w)) (λ_=>True) p s d.names hl M (by omega) (by omega) (by omega) an ao aq) (λh k=>h.trans k) (r8 (by omega)) (T4 _ _) (λ_=>O)
  (λz W=>MB (K (E w)) (z.map (·.1.1)) W/\Below (K (E w)) M W)
  (λ_ _ _=>False)
  (OwnFrom.and (λz W W' ay hI t hr=>by obtain⟨v,h1,h2⟩:=hI;exact⟨v,kG t hr h1,nE t hr h2⟩) (ownFrom_below (by omega) (by omega)))
  (λ_ _ _ _ _ hs _ _=>hs)
  ⟨⟨_,ak,Uw _ _ _ _⟩,T4 _ _⟩
  (λy=>{ tmps := #[WV (S ⟨b,0,U⟩),undef,J U 0 0,Z Y 0,WV (S ⟨K (E w),0,U⟩),H y.1.1,WV (S ⟨b,0,U⟩),WV (S ⟨b,0,U⟩),WV (S ⟨b,6,U⟩),.bool W9,WV (S ⟨b,0,U⟩),WV (S ⟨b,0,U⟩),WV (S ⟨b,1,U⟩),.func (.func 96) #[] #[WV (S ⟨K (E w)+1,0,U⟩)],H y.1.1,eD y.1.2,undef,undef,undef,undef,undef],defers:=[] }) ?assign ?body ?done ?stop
 case assign =>
  intro l y W m hK
  gi_wp2
  exact hK
 case body =>
  rintro l' z ⟨⟨ya,yf⟩,hy⟩ W ⟨⟨v,G,u⟩,T⟩ az;rw[UX] at u;obtain⟨Q,R,rfl⟩:=gw u;have u0:W.cell? ⟨K (E w),0,U⟩=S (J Q (Xg z) R):=by rw[T5 W _ 0 _ _ _ G];rfl
  have aa:K (E w)<K (E W):=cV G;have ar:S (K (E w))≠(Value.slice Q (Xg z) R).ownBlock:=λe=>by have:=(u.lt _ e.symm).1;omega
  unfold eD
  gi_wp2_with (gi_at_builtin;go_loud (refine wpListIn_append_own _ O _ _ 106 O (K (E w)+1) 9 i0 (H ⟨#[]⟩) 1 16 underlying106 hi ah ai aj O (by decide) (J Q (Xg z) R) _ _ O (u.alloc _) ⟨K (E W),0,U⟩ 1 1 [H ya] O O (cell_one_new _ _ _) (by simp[Value.oneCell']) (by unfold maxLen;omega) (by omega) (Uc (show (K (E w))+1<=K (E W) by omega) (by simp)) ?_;intro v' V N A _;obtain⟨g1,C,rfl⟩:=ownsRow_succ N;have X:V.heap[K (E w)]?=S (D #[J Q (Xg z) R] 106 (0,0)):=(A.block (K (E w)) (Nat.lt_trans aa (by simp)) ar).trans ((Ur W _ _ aa).trans G);have q0:V.cell? ⟨K (E w),0,U⟩=S (J Q (Xg z) R):=(T5 V _ 0 _ _ _ X).trans O;have qf:V.frozen? ⟨K (E w),0,U⟩=W9:=by(simp[World.frozen?,X])))
  have au:KeepsOthers W (V.setCell ⟨K (E w),0,U⟩ (J (S ⟨g1,0,U⟩) (Xg z+1) C)):=by
   refine((KeepsOthers.alloc W _).trans (KeepsOthers.of_grownBy A λj o' ej hj=>?_)).trans (KeepsOthers.setCell _ _ _);obtain⟨aA,hc,_⟩:=dh (u.alloc _) ej;rw[hc] at hj;cases hj;rfl
  have I:Below (K (E w)) W (V.setCell ⟨K (E w),0,U⟩ (J (S ⟨g1,0,U⟩) (Xg z+1) C)):=(((T4 (K (E w)) W).alloc (by omega) _).grown A (by simp;omega) (λk hk=>by have:=(u.lt k hk).1;omega)).setCell (p:=⟨K (E w),0,U⟩) WN _;have av:=Ue V (K (E w)) 0 _ _ (J (S ⟨g1,0,U⟩) (Xg z+1) C) X;exact⟨au.from _,⟨I.os,I.tape,I.output,I.size,λk hk _=>I.block k hk⟩,⟨J (S ⟨g1,0,U⟩) (Xg z+1) C,av,by rw[UX,UG,Vn,Vn];exact Um N (show (K (E w))<K (E w)+1 by omega) _⟩,T.trans I⟩
 case done =>
  rintro Dd ys W aB q ⟨⟨v,G,u⟩,T⟩ hK;have ab:Xg ys=Xg d.names:=by rw[q,List.length_attach]
  have ad:(ys.map (·.1.1)).map Value.string=d.names.map (λp=>Value.string p.1):=by
   have e:=congrArg (List.map (λp:WU × Nat=>Value.string p.1)) (WL d.names);rw[List.map_map] at e;rw[q,List.map_map];exact e
  rw[UX,ab,ad] at u;obtain⟨Q,R,rfl⟩:=gw u;have aw:=cT u;have u0:W.cell? ⟨K (E w),0,U⟩=S (J Q (Xg d.names) R):=by rw[T5 W _ 0 _ _ _ G];rfl
  have ae:=P.trans T;clear q G ab u ad
  gi_wp2
  refine⟨by simp,.inl ⟨_,_,O,run_takeDeferred hK,?_⟩⟩;refine⟨WX #[J Q (Xg d.names) R,Z Y 0],by simp[results,results44,go_sem],_,O,?_,?_⟩
  .exact lA (nE (B:=0) (Wh W Dd _) (λr hr=>by cases hr;exact⟨Ud _,_,hK,O⟩) (cS aw)) (U0 _)
  .exact ae.grown (Wh W Dd _) ae.size (λk hk=>by cases hk;omega)
 case stop =>
  intro D' c z W _ _ h;exact h.elim
theorem Ii(b:Nat)(d:Dv)(w:WR)(h:kK w b d)(j:d.down=W8):WT prog 44 #[WV (S ⟨b,0,U⟩)] w λe l=>e=WZ (WX #[J U 0 0,Z Y 9])/\WQ w l:=by
 have m:w.cell? ⟨b,6,U⟩=S (.bool W8):=by rw[<-j];exact h.cell.2.2.2.2.2.2
 clear h j;go_enter func44,ntmps44;go_wp2;go_ret2;exact⟨O,T4 _ _⟩
end Pk
namespace Pk
open Go.RowKit
open Sd (Tb)
open Dk
def ky(n:Int)(m:Nat):Nat:=(min (max n 0) (m:Int)).toNat
theorem Bp(n:Int)(m:Nat):((ky n m:Nat):Int)=min (max n 0) (m:Int):=by unfold ky;omega
theorem sN(n:Int)(m:Nat):ky n m<=m:=by unfold ky;omega
theorem xQ(n:Int)(m:Nat)(b:Int)(w:WR)(j:b=(m:Int)):WT prog 56 #[Z Y n,Z Y b] w λe l=>e=WZ (Z Y (ky n m))/\l=w:=by
 subst j;rw[Bp];go_enter func56,ntmps56;go_wp2;go_ret;exact⟨O,O⟩
structure qk (w:WR) (B:Nat) (p:Option Addr) (n:Nat) (K:Nat->Int):Prop where
 cell:∀j,j<n->∃g o,p=S ⟨g,o,U⟩/\w.cell? ⟨g,o+j,U⟩=S (Z Y (K j))/\(g<B\/∃cur fr,w.heap[g]?=S (D cur 3 fr))
 small:n<=9223372036854775807
def lK(n:Nat)(K:Nat->Int)(i:Nat):Int:=if i<n then K i else 0
theorem Dl(p:Option Addr)(n c:Nat)(K:Nat->Int)(i:Nat)(w:WR){B:Nat}(h:qk w B p n K):WT prog 59 #[J p n c,Z Y i] w λe j=>e=WZ (Z Y (lK n K i))/\j=w:=by
 have l:=h.small;by_cases hi:i<n
 .have e:lK n K i=K i:=T0 hi;rw[e];have b:(i:Int)<(n:Int):=by omega
  obtain⟨g,o,rfl,m,_⟩:=h.cell i hi;clear h e;go_enter func59,ntmps59;go_wp2;go_ret;exact⟨O,O⟩
 .have e:lK n K i=0:=TZ hi;rw[e];have b:¬(i:Int)<(n:Int):=by omega
  clear h e;go_enter func59,ntmps59;go_wp2;go_ret;exact⟨O,O⟩
def iJ(F:Fl)(k:Int):Fl:=⟨F.bytes.extract 0 (F.safe+ky k (F.bytes.size-F.safe)),F.safe+ky k (F.bytes.size-F.safe)⟩
theorem Ak{F:Fl}(h:F.safe<=F.bytes.size)(k:Int):(iJ F k).bytes.size=F.safe+ky k (F.bytes.size-F.safe):=by
 have:=sN k (F.bytes.size-F.safe);unfold iJ;rw[Un];omega
theorem Cz{F:Fl}(h:F.safe<=F.bytes.size)(k:Int):(iJ F k).safe<=(iJ F k).bytes.size:=by rw[Ak h k];exact TY _
theorem Kb{w:WR}{p:Option Addr}{b:WU}{c m:Nat}(h:w.ownsRow 0 5 1 (J p b.size c) b.size (byteCells b))(l:m<=b.size):w.ownsRow 0 5 1 (J p m c) m (byteCells (b.extract 0 m)):=by
 have r:(byteCells (b.extract 0 m)).length=m:=by rw[pT,Un];omega
 have u:byteCells (b.extract 0 m)=(byteCells b).take m:=by
  unfold byteCells;rw[<-List.map_take]
  congr 1
  simp
 refine⟨by rw[r,Nat.mul_one],?_⟩;rcases h.2 with ⟨e,G⟩|⟨g,y,j,e,z,A,I,B,C,F⟩
 .injection e with e1 e2 e3;subst e1 e3;have:m=0:=by omega
  subst this;exact .inl ⟨O,O⟩
 .injection e with e1 e2 e3;subst e1 e3;refine .inr ⟨g,c,j,O,z,A,by omega,B,C,?_⟩;rw[u,<-F,Vx,Nat.mul_one,Nat.mul_one,V2 l]
theorem Hu(f:Nat)(F:Fl)(vb:WS)(k:Int)(w:WR)(h:rH w f F vb)(hs:F.safe<=F.bytes.size):WT prog 58 #[WV (S ⟨f,0,U⟩),Z Y k] w λe L=>e=WZ (WX #[])/\∃v',rH L f (iJ F k) v'/\v'.ownBlock=vb.ownBlock/\Kept w L (λk=>k≠f):=by
 obtain⟨p,c,rfl,N⟩:=Dk.dm h.row;have P:∀a,p=S a->∃g,a=⟨g,0,U⟩:=λa e=>by
  rcases h.row.2 with ⟨m,_⟩|⟨g,_,_,m,_⟩
  .injection m with e1;rw[e1] at e;cases e
  .injection m with e1;rw[e1] at e;exact⟨g,(Ut e).symm⟩
 have B:p=U->F.bytes.size=0:=λe=>by
  rcases h.row.2 with ⟨_,C⟩|⟨g,_,_,m,_⟩
  .exact C
  .injection m with e1;rw[e1] at e;cases e
 have G:=cT h;have Q:w.cell? ⟨f,0,U⟩=S (J p F.bytes.size c):=by rw[T5 w _ 0 _ _ _ h.blk];rfl
 have R:w.cell? ⟨f,1,U⟩=S (Z Y F.safe):=by rw[T5 w _ 1 _ _ _ h.blk];rfl
 have f0:w.frozen? ⟨f,0,U⟩=W9:=by simp[World.frozen?,h.blk]
 have f1:w.frozen? ⟨f,1,U⟩=W9:=by simp[World.frozen?,h.blk]
 have hm:c<=9223372036854775807:=by
  rcases h.row.2 with ⟨m,C⟩|⟨_,ab,_,m,_,_,h1,h2,_⟩
  .injection m with _ _ e3;omega
  .injection m with _ _ e3;unfold maxLen at h2;omega
 have I:=sN k (F.bytes.size-F.safe);have r:=λW mm (e:mm=(((F.bytes.size-F.safe:Nat)):Int))=>xQ k (F.bytes.size-F.safe) mm W e
 generalize T:ky k (F.bytes.size-F.safe)=X at r I;clear h;go_enter func58,ntmps58;have y:IntKind.i64.wrap ((F.bytes.size:Int)-(F.safe:Int))=(((F.bytes.size-F.safe:Nat)):Int):=by rw[Uy];omega
 have V:IntKind.i64.wrap ((F.safe:Int)+(X:Int))=((F.safe+X:Nat):Int):=by rw[Uy];omega
 cases p with
 |none =>
  have C:=B O;have u:F.safe=0:=by omega
  have q:X=0:=by omega
  have t:c=0:=by
   rcases(cS G).row.2 with ⟨m,_⟩|⟨_,_,_,m,_⟩
   .injection m
   .injection m with e1;cases e1
  subst q t;rw[C] at Q r y;rw[u] at R r y;have s:=cT (And.intro C u);have HX:=cT T;clear P B C u I N hs V T;go_wp2_with fail
  go_quiet (fail)
  go_wp2_with fail
  go_region_with (go_at_call 56;refine(r _ _ (by first|exact y|rfl|omega)).mono ?_;rintro e L ⟨rfl,o⟩;obtain rfl:=o.symm)
  all_goals
   obtain⟨W,z⟩:∃W,W=((w.drewN (nq+1)).setCell ⟨f,0,U⟩ (J U 0 0)):=⟨_,rfl⟩
   have j:W.heap[f]?=S (D #[J U 0 0,Z Y F.safe] 127 (0,0)):=by
    rw[z];exact Ue (w.drewN (nq+1)) f 0 _ _ _ (cS G).blk
   have l:Kept w W (λk=>k≠f):=by
    rw[z];exact⟨O,O,O,by simp,λk hk ho=>Uj (w.drewN (nq+1)) _ _ k ho⟩
   have d0:W.cell? ⟨f,0,U⟩=S (J U 0 0):=by rw[T5 W _ 0 _ _ _ j];rfl
   have d1:W.cell? ⟨f,1,U⟩=S (Z Y F.safe):=by rw[T5 W _ 1 _ _ _ j];rfl
   have df:W.frozen? ⟨f,1,U⟩=W9:=by simp[World.frozen?,j]
   rw[<-z];have b:=cT (And.intro j l);clear z j l Q R f0 f1;go_wp2;obtain⟨j,l⟩:=cS b;obtain⟨C,u⟩:=cS s;have hx:rH (W.setCell ⟨f,1,U⟩ (Z Y ((0:Nat):Int))) f (iJ F k) (J U 0 0):=by
    have e:iJ F k=⟨F.bytes.extract 0 0,0⟩:=by unfold iJ;rw[cS HX,u]
    have M:(F.bytes.extract 0 0).size=0:=by rw[Un];omega
    rw[e];refine sG (X:=⟨F.bytes.extract 0 0,F.safe⟩) ⟨j,?_⟩ 0
    show World.ownsRow W 0 5 1 _ (F.bytes.extract 0 0).size _
    rw[M];have hn:byteCells (F.bytes.extract 0 0)=[]:=Wo (by rw[pT,M]);rw[hn];exact Uw _ _ _ _
   exact Ub (Ua O _ _ _) O ⟨O,J U 0 0,by simpa using hx,O,l.setCell (λh=>h O) _⟩
 |some a =>
  obtain⟨g,rfl⟩:=P a rfl;clear P B;go_wp2_with fail
  go_quiet (fail)
  go_wp2_with fail
  go_region_with (go_at_call 56;refine(r _ _ (by first|exact y|rfl|omega)).mono ?_;rintro e L ⟨rfl,o⟩;obtain rfl:=o.symm)
  all_goals
   obtain⟨W,z⟩:∃W,W=((w.drewN (nq+1)).setCell ⟨f,0,U⟩ (J (S ⟨g,0,U⟩) (F.safe+X) c)):=⟨_,rfl⟩
   have j:W.heap[f]?=S (D #[J (S ⟨g,0,U⟩) (F.safe+X) c,Z Y F.safe] 127 (0,0)):=by
    rw[z];exact Ue (w.drewN (nq+1)) f 0 _ _ _ (cS G).blk
   have l:Kept w W (λk=>k≠f):=by
    rw[z];exact⟨O,O,O,by simp,λk hk ho=>Uj (w.drewN (nq+1)) _ _ k ho⟩
   have A:W.ownsRow 0 5 1 (J (S ⟨g,0,U⟩) (F.safe+X) c) (F.safe+X) (byteCells (F.bytes.extract 0 (F.safe+X))):=by
    refine dv (Kb (cS G).row (by omega)) l (λg' aa=>?_);have:g=g':=by simpa [Value.ownBlock] using aa
    subst this;obtain⟨cc,t⟩:=(cS G).own (g:=g) rfl;exact de t (cS G).blk (by decide)
   have d0:W.cell? ⟨f,0,U⟩=S (J (S ⟨g,0,U⟩) (F.safe+X) c):=by rw[T5 W _ 0 _ _ _ j];rfl
   have d1:W.cell? ⟨f,1,U⟩=S (Z Y F.safe):=by rw[T5 W _ 1 _ _ _ j];rfl
   have df:W.frozen? ⟨f,1,U⟩=W9:=by simp[World.frozen?,j]
   rw[<-z];have b:=cT (And.intro j (And.intro l A));clear z j l A Q R f0 f1;go_wp2;obtain⟨j,l,A⟩:=cS b;have hx:rH (W.setCell ⟨f,1,U⟩ (Z Y ((F.safe+X:Nat):Int))) f (iJ F k) (J (S ⟨g,0,U⟩) (F.safe+X) c):=by
    have e:iJ F k=⟨F.bytes.extract 0 (F.safe+X),F.safe+X⟩:=by unfold iJ;rw[T]
    have M:(F.bytes.extract 0 (F.safe+X)).size=F.safe+X:=by rw[Un];omega
    rw[e];refine sG (X:=⟨F.bytes.extract 0 (F.safe+X),F.safe⟩) ⟨j,?_⟩ (F.safe+X)
    show World.ownsRow W 0 5 1 _ (F.bytes.extract 0 (F.safe+X)).size _
    rw[M];exact A
   exact Ub (Ua O _ _ _) O ⟨O,J (S ⟨g,0,U⟩) (F.safe+X) c,by simpa using hx,O,l.setCell (λh=>h O) _⟩
end Pk
end Go.Proofs.YtgkkdpegcieakaaGreatDoor
