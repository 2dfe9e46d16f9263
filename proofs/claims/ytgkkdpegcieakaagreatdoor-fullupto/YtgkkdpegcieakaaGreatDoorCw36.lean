import Derived.Test.YtgkkdpegcieakaaGreatDoorCw35
set_option linter.all false
set_option maxRecDepth 100000
set_option maxHeartbeats 16000000
namespace Go.Proofs.YtgkkdpegcieakaaGreatDoor
open Go.Proofs.Tryz
open Value renaming int→Z,string→H,pointer→WV,bool→WW
open Obj renaming cells→D
open Option renaming none→U,some→S
open Bool renaming true→W8,false→W9
open _root_.Array renaming size→K
open World renaming heap→E
open IntKind renaming i64→Y
open Go renaming World→WR,Value→WS,Calls→WT
namespace Ru
open Go.RowKit
open Rd (Rk)
open Pk (iV Sm dh cV de)
open Dk (Kept fU)
open Rt
open Go.Shelf
attribute [local go_sem] Oper.semAt_some
def Aa(a:WU)(s:Nat):Bool:=decide (a=nm 99 s) || decide (a=nm 109 s) || decide (a=nm 118 s)
theorem F5{K:List Nat}{a:WU}:yL K a=K.any (Aa a):=by
 apply Bool.eq_iff_iff.2;rw[nY,Vu];constructor
 .rintro⟨s,b,h⟩;refine⟨s,b,?_⟩;unfold Aa;simpa [or_assoc] using h
 .rintro⟨s,b,h⟩;refine⟨s,b,?_⟩;unfold Aa at h;simpa [or_assoc] using h
theorem pr(b m da n cX:Nat)(v:WS)(T:Sn.Tb)(a:WU)(w:WR)(h:gG w b m da n cX v T)(hT:∀x∈T,x.1<=9999999999)(au:fI w):WT prog 90 #[WV (S ⟨b,0,U⟩),H a] w λe w'=>e=.returned (WW (yL (T.map (·.1)) a))/\WQ w w':=by
 obtain⟨bk,ae⟩:∃bk,Hid (yL (T.map (·.1)) a=bk):=⟨_,rfl⟩
 rw[cS ae];refine(Vq (n:=5)).1 ?_;refine callsIn_of_wp_marks func90 O trivial ?_ O;simp only[ntmps90,VD,Uf,Vl,Nat.reduceAdd,Nat.reduceSub,VJ,VK,VL,VM,U2,UM];obtain⟨p,av,aw,X⟩:=Rt.dS h.tab.row;have HS:=cT h;have aJ:b<K (E w):=h.lt
 gi_wp2_with (refine⟨trivial,?_⟩;gi_at_call 132;refine(Rt.qw _ _ trivial O _ _).mono ?_;rintro e w' ⟨rfl,rfl⟩)
 obtain⟨L,Q⟩:∃L,(((w.alloc (D #[H a] 9)).alloc (D #[WW W9] 4)).alloc (D #[WV (S ⟨b,4,U⟩)] 177))=L:=⟨_,rfl⟩
 have aK:K (E L)=K (E w)+3:=by rw[<-Q];simp
 have M:WQ w L:=by rw[<-Q];exact(((T4 _ w).alloc WN _).alloc (by simp) _).alloc (by simp;omega) _
 have ax:L.heap[K (E w)]?=S (D #[H a] 9 (0,0)):=by
  rw[<-Q,Ur _ _ _ (by simp;omega),Ur _ _ _ (by simp)];exact Vz w _
 have ay:L.heap[K (E w)+1]?=S (D #[WW W9] 4 (0,0)):=by
  have:=Vz (w.alloc (D #[H a] 9)) (D #[WW W9] 4);rw[Uv] at this;rw[<-Q,Ur _ _ _ (by simp)];exact this
 have az:L.cell? ⟨K (E w)+1+1,0,U⟩=S (WV (S ⟨b,4,U⟩)):=by
  have:=Vz ((w.alloc (D #[H a] 9)).alloc (D #[WW W9] 4)) (D #[WV (S ⟨b,4,U⟩)] 177);rw[Uv,Uv,Q] at this;simp[World.cell?,this]
 have aA:L.cell? ⟨b,4,U⟩=S (.slice p T.length av):=by
  rw[M.cell (p:=⟨b,4,U⟩) aJ,T5 w b 4 _ _ _ h.tab.blk,<-aw];rfl
 have hl:=h.tab.len;have aB:∀j (hj:j<T.length),∃g,p=S ⟨g,0,U⟩/\g<K (E w)/\True/\L.cell? ⟨g,j*4,U⟩=S (Z Y (T[j].1:Int))/\L.cell? ⟨g,j*4+1,U⟩=S (Z Y (T[j].1:Int))/\L.cell? ⟨g,j*4+2,U⟩=S (.slice T[j].2.p T[j].2.n T[j].2.c)/\L.cell? ⟨g,j*4+3,U⟩=S (Z Y T[j].2.al):=λj hj=>by
  obtain⟨g,e,c0,c1,c2,c3⟩:=X j hj;have hg:=Ui w _ c0;exact⟨g,e,hg,trivial,(M.cell (p:=⟨g,j*4,U⟩) hg).trans c0,(M.cell (p:=⟨g,j*4+1,U⟩) hg).trans c1,(M.cell (p:=⟨g,j*4+2,U⟩) hg).trans c2,(M.cell (p:=⟨g,j*4+3,U⟩) hg).trans c3⟩
 have aC:=cT au;have aD:=cT hT;rw[Q];clear Q X aw h au hT;refine wpIn_rangeFunc_ownG O (by omega) (gf:=208) (lb := #[WV (S ⟨K (E w)+1+1,0,U⟩)]) O trivial (enters_of func208 (by kernel_rfl) O)
  (Rt.kI _ _ trivial O (by omega) (K (E w)+1+1) b 4 (K (E w)) (λ_=>True) p av T hl L (by omega) (by omega) (by omega) az aA aB) (λh k=>h.trans k) (Pk.r8 (by omega)) (T4 _ _) (λ_=>O)
  (λt W=>(W.heap[K (E w)+1]?=S (D #[WW W9] 4 (0,0))/\W.heap[K (E w)]?=S (D #[H a] 9 (0,0))/\Below (K (E w)) L W)/\(t.any λx=>Aa a x.1.1)=W9)
  (λc t W=>(W.heap[K (E w)+1]?=S (D #[WW W8] 4 (0,0))/\Below (K (E w)) L W)/\((T.map (·.1)).any (Aa a)=W8/\c=.ret))
  (OwnFrom.and (OwnFrom.and (Pk.uh _ _ (λ_=>Obj.cells #[WW W9] 4 (0,0)) (λ_=>O)) (OwnFrom.and (Pk.uh _ _ (λ_=>Obj.cells #[H a] 9 (0,0)) (λ_=>O)) (ownFrom_below (by omega) (by omega)))) (ownFrom_pure _ _))
  (λc=>OwnFrom.and (OwnFrom.and (Pk.uh _ _ (λ_=>Obj.cells #[WW W8] 4 (0,0)) (λ_=>O)) (ownFrom_below (by omega) (by omega))) (ownFrom_pure _ _))
  ⟨⟨ay,ax,T4 _ _⟩,O⟩
  (λy=>{ tmps := #[WV (S ⟨b,0,U⟩),H a,undef,WV (S ⟨K (E w),0,U⟩),WV (S ⟨K (E w)+1,0,U⟩),Z Y (y.1.1:Int),WV (S ⟨b,0,U⟩),WV (S ⟨b,0,U⟩),WV (S ⟨b,4,U⟩),.func (.func 208) #[] #[WV (S ⟨K (E w)+1+1,0,U⟩)],Z Y (y.1.1:Int),Rt.lj y.1.1 y.1.2,undef,undef,undef,undef,undef,undef,undef,undef,undef,undef,undef,undef,undef,undef,undef,undef],defers:=[] }) ?assign ?body ?done ?stop
 case assign =>
  intro l y W r hK
  gi_wp2
  exact hK
 case body =>
  rintro l' t ⟨⟨s,ce⟩,hy⟩ W ⟨⟨A,R,F⟩,aj⟩ aQ;have hs:=(cS aD) (s,ce) hy;dsimp only at hs;have af:fI W:=(cS aC).below (M.trans F);have n0:W.cell? ⟨K (E w),0,U⟩=S (H a):=by rw[T5 W _ 0 _ _ _ R];rfl
  have nd:W.drew.cell? ⟨K (E w),0,U⟩=S (H a):=n0;have hIn:(T.map (·.1)).any (Aa a)=(Aa a s || (T.map (·.1)).any (Aa a)):=by
   cases hq:Aa a s with
   |false=>rfl
   |true=>rw[Bool.true_or];exact Vu.2 ⟨s,Ve.2 ⟨(s,ce),hy,O⟩,hq⟩
  have aR:Hid (WQ W W):=T4 _ _;have aS:Hid (WQ W W.drew):=WO.drew;have aT:K (E w)<K (E W):=cV R;have aE:K (E w)<=K (E W):=by omega
  have CT:∀{u:WR} {z:WR},Hid (WQ W u)->u.cell? ⟨K (E w),0,U⟩=S (H a)->WQ u z->Hid (WQ W z)/\z.cell? ⟨K (E w),0,U⟩=S (H a):=λ{u z} G P h3 =>
   ⟨(cS G).trans (h3.mono (cS G).size),(h3.cell (p:=⟨K (E w),0,U⟩) (Ui u _ P)).trans P⟩
  have aa:Hid (∀u,Hid (WQ W u)->u.cell? ⟨K (E w),0,U⟩=S (H a)->WT prog 79 #[Z Y (s:Int)] u λe z=>e=.returned (H (nm 99 s))/\Hid (WQ W z)/\z.cell? ⟨K (E w),0,U⟩=S (H a)):=λu G P=>(kN s u hs (af.below (cS G))).mono λe z ⟨he,I⟩=>⟨he,CT G P I⟩
  have ag:Hid (∀u,Hid (WQ W u)->u.cell? ⟨K (E w),0,U⟩=S (H a)->WT prog 81 #[Z Y (s:Int)] u λe z=>e=.returned (H (nm 109 s))/\Hid (WQ W z)/\z.cell? ⟨K (E w),0,U⟩=S (H a)):=λu G P=>(iW s u hs (af.below (cS G))).mono λe z ⟨he,I⟩=>⟨he,CT G P I⟩
  have an:Hid (∀u,Hid (WQ W u)->u.cell? ⟨K (E w),0,U⟩=S (H a)->WT prog 82 #[Z Y (s:Int)] u λe z=>e=.returned (H (nm 118 s))/\Hid (WQ W z)/\z.cell? ⟨K (E w),0,U⟩=S (H a)):=λu G P=>(kO s u hs (af.below (cS G))).mono λe z ⟨he,I⟩=>⟨he,CT G P I⟩
  have B:Aa a s=(decide (a=nm 99 s) || decide (a=nm 109 s) || decide (a=nm 118 s)):=rfl;obtain⟨N1,aL⟩:∃N,nm 99 s=N:=⟨_,rfl⟩
  obtain⟨N2,aM⟩:∃N,nm 109 s=N:=⟨_,rfl⟩
  obtain⟨N3,aN⟩:∃N,nm 118 s=N:=⟨_,rfl⟩
  rw[aL] at aa B;rw[aM] at ag B;rw[aN] at an B;have C:Hid (Aa a s=W8->∀u,WQ W u->u.cell? ⟨K (E w)+1,0,U⟩=S (WW W9)/\u.frozen? ⟨K (E w)+1,0,U⟩=W9/\Hid (KeepsFrom (K (E L)) W (u.setCell ⟨K (E w)+1,0,U⟩ (WW W8))/\(((u.setCell ⟨K (E w)+1,0,U⟩ (WW W8)).heap[K (E w)+1]?=S (D #[WW W8] 4 (0,0))/\Below (K (E w)) L (u.setCell ⟨K (E w)+1,0,U⟩ (WW W8)))/\((T.map (·.1)).any (Aa a)=W8/\Code.ret=Code.ret)))):=by
   show _->_
   intro hy u I;have e1:=(I.block _ (cV A)).trans A;refine⟨by rw[T5 u _ 0 _ _ _ e1];rfl,by simp[World.frozen?,e1],?_⟩;have hB:=(F.trans (I.mono aE)).setCell (p:=⟨K (E w)+1,0,U⟩) (show (K (E w))<=K (E w)+1 by omega) (WW W8);refine⟨?_,⟨Ue u _ 0 _ _ _ e1,hB⟩,by rw[hIn,hy];rfl,O⟩;refine((⟨I.size,λk o hk _=>(I.block k (Ug.1 hk).1).trans hk⟩:KeepsOthers W u).trans (KeepsOthers.setCell u _ _)).from _
  have ab:Hid (Aa a s=W9->∀u,WQ W u->KeepsFrom (K (E L)) W u/\fU (K (E w)) (λ_=>True) W u/\((u.heap[K (E w)+1]?=S (D #[WW W9] 4 (0,0))/\u.heap[K (E w)]?=S (D #[H a] 9 (0,0))/\Below (K (E w)) L u)/\((t++[(⟨(s,ce),hy⟩:{ x:Nat × Sn.Ce // x∈T })]).any λx=>Aa a x.1.1)=W9)):=by
   show _->_
   intro hn u I;refine⟨(⟨I.size,λk o hk _=>(I.block k (Ug.1 hk).1).trans hk⟩:KeepsOthers W u).from _,⟨I.os,I.tape,I.output,I.size,λk hk _=>I.block k (by omega)⟩,⟨(I.block _ (cV A)).trans A,(I.block _ (cV R)).trans R,F.trans (I.mono aE)⟩,?_⟩;rw[List.any_append,aj];simpa using hn
  unfold Rt.lj;clear A R F aj hIn af CT az aA aB ay ax aC aD ae HS M aK;by_cases G:a=N1
  .have e1:(a.toList == N1.toList)=W8:=by rw[G];simp
   have hF:Aa a s=W8:=by rw[B,G];simp
   have HY:=cT (cS C hF);have aU:=cT G;clear C ab hF B G
   gi_wp2
   gi_region_with (first
   |(refine⟨trivial,?_⟩;gi_at_call 79;refine(VY l' ((Vq (n:=_)).2 ((cS aa) _ (by assumption) (by assumption)))).mono ?_;rintro e w1 ⟨rfl,ah,n1⟩)
    | (refine⟨trivial,?_⟩))
   all_goals
    obtain⟨y0,y1,V⟩:=cS HY w1 (cS ah)
    gi_wp2
    have q:=cS V;exact⟨q.1,q.2.1,q.2.2.1,O⟩
  .have e1:(a.toList == N1.toList)=W9:=Uh.2 (λh=>G (Sd.toList_inj h));by_cases P:a=N2
   .have e2:(a.toList == N2.toList)=W8:=by rw[P];simp
    have hF:Aa a s=W8:=by rw[B,P];simp
    have HY:=cT (cS C hF);clear C ab hF B G;have aO:=cT P;clear P
    gi_wp2
    gi_region_with (first
    |(refine⟨trivial,?_⟩;gi_at_call 79;refine(VY l' ((Vq (n:=_)).2 ((cS aa) _ (by assumption) (by assumption)))).mono ?_;rintro e w1 ⟨rfl,ah,n1⟩)
    |(refine⟨trivial,?_⟩;gi_at_call 81;refine(VY l' ((Vq (n:=_)).2 ((cS ag) _ (by assumption) (by assumption)))).mono ?_;rintro e w2 ⟨rfl,ao,n2⟩)
     | (refine⟨trivial,?_⟩))
    all_goals
     obtain⟨y0,y1,V⟩:=cS HY w2 (cS ao)
     gi_wp2
     have q:=cS V;exact⟨q.1,q.2.1,q.2.2.1,O⟩
   .have e2:(a.toList == N2.toList)=W9:=Uh.2 (λh=>P (Sd.toList_inj h));by_cases h3:a=N3
    .have e3:(a.toList == N3.toList)=W8:=by rw[h3];simp
     have hF:Aa a s=W8:=by rw[B,h3];simp
     have HY:=cT (cS C hF);clear C ab hF B G P;have aO:=cT h3;clear h3
     gi_wp2
     gi_region_with (first
     |(refine⟨trivial,?_⟩;gi_at_call 79;refine(VY l' ((Vq (n:=_)).2 ((cS aa) _ (by assumption) (by assumption)))).mono ?_;rintro e w1 ⟨rfl,ah,n1⟩)
     |(refine⟨trivial,?_⟩;gi_at_call 81;refine(VY l' ((Vq (n:=_)).2 ((cS ag) _ (by assumption) (by assumption)))).mono ?_;rintro e w2 ⟨rfl,ao,n2⟩)
     |(refine⟨trivial,?_⟩;gi_at_call 82;refine(VY l' ((Vq (n:=_)).2 ((cS an) _ (by assumption) (by assumption)))).mono ?_;rintro e w3 ⟨rfl,aq,n3⟩)
      | (refine⟨trivial,?_⟩))
     all_goals
      obtain⟨y0,y1,V⟩:=cS HY w3 (cS aq)
      gi_wp2
      have q:=cS V;exact⟨q.1,q.2.1,q.2.2.1,O⟩
    .have e3:(a.toList == N3.toList)=W9:=Uh.2 (λh=>h3 (Sd.toList_inj h));have hF:Aa a s=W9:=by rw[B,Uu G,Uu P,Uu h3];rfl
     have HY:=cT (cS ab hF);clear C ab hF B G P h3
     gi_wp2
     gi_region_with (first
     |(refine⟨trivial,?_⟩;gi_at_call 79;refine(VY l' ((Vq (n:=_)).2 ((cS aa) _ (by assumption) (by assumption)))).mono ?_;rintro e w1 ⟨rfl,ah,n1⟩)
     |(refine⟨trivial,?_⟩;gi_at_call 81;refine(VY l' ((Vq (n:=_)).2 ((cS ag) _ (by assumption) (by assumption)))).mono ?_;rintro e w2 ⟨rfl,ao,n2⟩)
     |(refine⟨trivial,?_⟩;gi_at_call 82;refine(VY l' ((Vq (n:=_)).2 ((cS an) _ (by assumption) (by assumption)))).mono ?_;rintro e w3 ⟨rfl,aq,n3⟩)
      | (refine⟨trivial,?_⟩))
     all_goals
      have V:=cT (cS HY w3 (cS aq))
      gi_wp2
      exact cS V
 case done =>
  rintro Dd ys W aV aF ⟨⟨A,R,F⟩,aG⟩ hK;have ad:=M.trans F;have aH:bk=W9:=by
   rw[<-cS ae,F5,List.any_map,<-WL T,List.any_map,<-aF];exact aG
  subst aH;have u0:W.cell? ⟨K (E w)+1,0,U⟩=S (WW W9):=by rw[T5 W _ 0 _ _ _ A];rfl
  have uf:W.frozen? ⟨K (E w)+1,0,U⟩=W9:=by simp[World.frozen?,A]
  have ai:K (E w)+1≠Dd:=by omega
  have aP:Hid ((W.setCell ⟨K (E w)+1,0,U⟩ (WW W9)).heap[Dd]?=S (.deferred (S []))):=(Uj W _ _ Dd (Vm ai)).trans hK;have aI:Hid (WQ w (W.setCell ⟨K (E w)+1,0,U⟩ (WW W9))):=ad.setCell (p:=⟨K (E w)+1,0,U⟩) (by simp) _;have HQ:Hid (∀o,((W.setCell ⟨K (E w)+1,0,U⟩ (WW W9)).putObj Dd o).cell? ⟨K (E w)+1,0,U⟩=S (WW W9)):=λo=>by
   show World.cell? _ _=_
   rw[T5 _ _ 0 _ _ _ ((World.putObj_heap_other ai).trans (Ue W _ 0 _ _ (WW W9) A))];rfl
  clear aF A R aG F hK ad
  gi_wp2
  refine⟨by simp,.inl ⟨_,_,O,run_takeDeferred (cS aP),?_⟩⟩;refine⟨WW W9,by simp[results,results90,go_sem,cS HQ],O,?_⟩;exact(cS aI).grown (Wh _ Dd _) (cS aI).size (λk hk=>by cases hk;omega)
 case stop =>
  rintro D' c t W aW _ ⟨⟨A,F⟩,ak,rfl⟩ hK;have ad:=M.trans F;have ar:bk=W8:=by rw[<-cS ae,F5];exact ak
  subst ar;have u0:W.cell? ⟨K (E w)+1,0,U⟩=S (WW W8):=by rw[T5 W _ 0 _ _ _ A];rfl
  have ai:K (E w)+1≠D':=by omega
  have HQ:Hid (∀o,(W.putObj D' o).cell? ⟨K (E w)+1,0,U⟩=S (WW W8)):=λo=>by
   show World.cell? _ _=_
   rw[T5 _ _ 0 _ _ _ ((World.putObj_heap_other ai).trans A)];rfl
  clear A ak F
  gi_wp2
  refine⟨by simp,.inl ⟨_,_,O,run_takeDeferred hK,?_⟩⟩;refine⟨WW W8,by simp[results,results90,go_sem,cS HQ],O,?_⟩;exact ad.grown (Wh W D' _) ad.size (λk hk=>by cases hk;omega)
end Ru
end Go.Proofs.YtgkkdpegcieakaaGreatDoor
