import Derived.Test.YtgkkdpegcieakaaGreatDoorCv26
set_option linter.all false
set_option maxRecDepth 100000
set_option maxHeartbeats 0
namespace Go.Proofs.YtgkkdpegcieakaaGreatDoor
open Go.Proofs.Tryz
open Value renaming int→Z,string→H,pointer→V9,bool→Wa
open Obj renaming cells→D
open Option renaming none→U,some→S
open Bool renaming true→We,false→Wg
open _root_.Array renaming size→N
open World renaming heap→E
open IntKind renaming i64→Y
open Go renaming World→V5,Value→V6,Calls→V7
namespace Ru
open Go.RowKit
open Rd (Rk)
open Pk (jd Sm di cX dh)
open Dk (Kept fV)
open Rt
open Go.Shelf
attribute [local go_sem] Oper.semAt_some
def zV(a:V8)(s:Nat):Bool:=decide (a=nm 99 s) || decide (a=nm 109 s) || decide (a=nm 118 s)
theorem E5{K:List Nat}{a:V8}:zp K a=K.any (zV a):=by
 apply Bool.eq_iff_iff.2;rw[nU,UL];constructor
 .rintro⟨s,b,h⟩;refine⟨s,b,?_⟩;unfold zV;simpa [or_assoc] using h
 .rintro⟨s,b,h⟩;refine⟨s,b,?_⟩;unfold zV at h;simpa [or_assoc] using h
theorem pK(b m dd n cY:Nat)(v:V6)(T:Sn.Tb)(a:V8)(w:V5)(h:gK w b m dd n cY v T)(hT:∀x∈T,x.1<=9999999999)(au:fN w):V7 prog 90 #[V9 (S ⟨b,0,U⟩),H a] w λe w'=>e=.returned (Wa (zp (T.map (·.1)) a))/\V4 w w':=by
 obtain⟨bk,ae⟩:∃bk,Hid (zp (T.map (·.1)) a=bk):=⟨_,rfl⟩
 rw[cT ae];refine(UF (n:=5)).1 ?_;refine callsIn_of_wp_marks func90 O trivial ?_ O;simp only[ntmps90,US,Tr,UB,Nat.reduceAdd,Nat.reduceSub,U1,U2,U4,U5,Ul,TZ];obtain⟨p,av,aw,X⟩:=Rt.dS h.tab.row;have HS:=cU h;have aJ:b<N (E w):=h.lt
 gi_wp2_with (refine⟨trivial,?_⟩;gi_at_call 132;refine(Rt.qC _ _ trivial O _ _).mono ?_;rintro e w' ⟨rfl,rfl⟩)
 obtain⟨L,Q⟩:∃L,(((w.alloc (D #[H a] 9)).alloc (D #[Wa Wg] 4)).alloc (D #[V9 (S ⟨b,4,U⟩)] 177))=L:=⟨_,rfl⟩
 have aK:N (E L)=N (E w)+3:=by rw[<-Q];simp
 have M:V4 w L:=by rw[<-Q];exact(((Th _ w).alloc V2 _).alloc (by simp) _).alloc (by simp;omega) _
 have ax:L.heap[N (E w)]?=S (D #[H a] 9 (0,0)):=by
  rw[<-Q,TD _ _ _ (by simp;omega),TD _ _ _ (by simp)];exact UO w _
 have ay:L.heap[N (E w)+1]?=S (D #[Wa Wg] 4 (0,0)):=by
  have:=UO (w.alloc (D #[H a] 9)) (D #[Wa Wg] 4);rw[TK] at this;rw[<-Q,TD _ _ _ (by simp)];exact this
 have az:L.cell? ⟨N (E w)+1+1,0,U⟩=S (V9 (S ⟨b,4,U⟩)):=by
  have:=UO ((w.alloc (D #[H a] 9)).alloc (D #[Wa Wg] 4)) (D #[V9 (S ⟨b,4,U⟩)] 177);rw[TK,TK,Q] at this;simp[World.cell?,this]
 have aA:L.cell? ⟨b,4,U⟩=S (.slice p T.length av):=by
  rw[M.cell (p:=⟨b,4,U⟩) aJ,Ti w b 4 _ _ _ h.tab.blk,<-aw];rfl
 have hl:=h.tab.len;have aB:∀j (hj:j<T.length),∃g,p=S ⟨g,0,U⟩/\g<N (E w)/\True/\L.cell? ⟨g,j*4,U⟩=S (Z Y (T[j].1:Int))/\L.cell? ⟨g,j*4+1,U⟩=S (Z Y (T[j].1:Int))/\L.cell? ⟨g,j*4+2,U⟩=S (.slice T[j].2.p T[j].2.n T[j].2.c)/\L.cell? ⟨g,j*4+3,U⟩=S (Z Y T[j].2.al):=λj hj=>by
  obtain⟨g,e,c0,c1,c2,c3⟩:=X j hj;have hg:=Tu w _ c0;exact⟨g,e,hg,trivial,(M.cell (p:=⟨g,j*4,U⟩) hg).trans c0,(M.cell (p:=⟨g,j*4+1,U⟩) hg).trans c1,(M.cell (p:=⟨g,j*4+2,U⟩) hg).trans c2,(M.cell (p:=⟨g,j*4+3,U⟩) hg).trans c3⟩
 have aC:=cU au;have aD:=cU hT;rw[Q];clear Q X aw h au hT;refine wpIn_rangeFunc_ownG O (by omega) (gf:=208) (lb := #[V9 (S ⟨N (E w)+1+1,0,U⟩)]) O trivial (enters_of func208 (by kernel_rfl) O)
  (Rt.kK _ _ trivial O (by omega) (N (E w)+1+1) b 4 (N (E w)) (λ_=>True) p av T hl L (by omega) (by omega) (by omega) az aA aB) (λh k=>h.trans k) (Pk.qX (by omega)) (Th _ _) (λ_=>O)
  (λt W=>(W.heap[N (E w)+1]?=S (D #[Wa Wg] 4 (0,0))/\W.heap[N (E w)]?=S (D #[H a] 9 (0,0))/\Below (N (E w)) L W)/\(t.any λx=>zV a x.1.1)=Wg)
  (λc t W=>(W.heap[N (E w)+1]?=S (D #[Wa We] 4 (0,0))/\Below (N (E w)) L W)/\((T.map (·.1)).any (zV a)=We/\c=.ret))
  (OwnFrom.and (OwnFrom.and (Pk.ux _ _ (λ_=>Obj.cells #[Wa Wg] 4 (0,0)) (λ_=>O)) (OwnFrom.and (Pk.ux _ _ (λ_=>Obj.cells #[H a] 9 (0,0)) (λ_=>O)) (ownFrom_below (by omega) (by omega)))) (ownFrom_pure _ _))
  (λc=>OwnFrom.and (OwnFrom.and (Pk.ux _ _ (λ_=>Obj.cells #[Wa We] 4 (0,0)) (λ_=>O)) (ownFrom_below (by omega) (by omega))) (ownFrom_pure _ _))
  ⟨⟨ay,ax,Th _ _⟩,O⟩
  (λy=>{ tmps := #[V9 (S ⟨b,0,U⟩),H a,undef,V9 (S ⟨N (E w),0,U⟩),V9 (S ⟨N (E w)+1,0,U⟩),Z Y (y.1.1:Int),V9 (S ⟨b,0,U⟩),V9 (S ⟨b,0,U⟩),V9 (S ⟨b,4,U⟩),.func (.func 208) #[] #[V9 (S ⟨N (E w)+1+1,0,U⟩)],Z Y (y.1.1:Int),Rt.kU y.1.1 y.1.2,undef,undef,undef,undef,undef,undef,undef,undef,undef,undef,undef,undef,undef,undef,undef,undef],defers:=[] }) ?assign ?body ?done ?stop
 case assign =>
  intro l y W K hK
  gi_wp2
  exact hK
 case body =>
  rintro l' t ⟨⟨s,ce⟩,hy⟩ W ⟨⟨A,R,F⟩,aj⟩ aQ;have hs:=(cT aD) (s,ce) hy;dsimp only at hs;have af:fN W:=(cT aC).below (M.trans F);have n0:W.cell? ⟨N (E w),0,U⟩=S (H a):=by rw[Ti W _ 0 _ _ _ R];rfl
  have nd:W.drew.cell? ⟨N (E w),0,U⟩=S (H a):=n0;have hIn:(T.map (·.1)).any (zV a)=(zV a s || (T.map (·.1)).any (zV a)):=by
   cases hq:zV a s with
   |false=>rfl
   |true=>rw[Bool.true_or];exact UL.2 ⟨s,Uu.2 ⟨(s,ce),hy,O⟩,hq⟩
  have aR:Hid (V4 W W):=Th _ _;have aS:Hid (V4 W W.drew):=V3.drew;have aT:N (E w)<N (E W):=cX R;have aE:N (E w)<=N (E W):=by omega
  have CT:∀{u:V5} {z:V5},Hid (V4 W u)->u.cell? ⟨N (E w),0,U⟩=S (H a)->V4 u z->Hid (V4 W z)/\z.cell? ⟨N (E w),0,U⟩=S (H a):=λ{u z} G P h3 =>
   ⟨(cT G).trans (h3.mono (cT G).size),(h3.cell (p:=⟨N (E w),0,U⟩) (Tu u _ P)).trans P⟩
  have aa:Hid (∀u,Hid (V4 W u)->u.cell? ⟨N (E w),0,U⟩=S (H a)->V7 prog 79 #[Z Y (s:Int)] u λe z=>e=.returned (H (nm 99 s))/\Hid (V4 W z)/\z.cell? ⟨N (E w),0,U⟩=S (H a)):=λu G P=>(kL s u hs (af.below (cT G))).mono λe z ⟨he,I⟩=>⟨he,CT G P I⟩
  have ag:Hid (∀u,Hid (V4 W u)->u.cell? ⟨N (E w),0,U⟩=S (H a)->V7 prog 81 #[Z Y (s:Int)] u λe z=>e=.returned (H (nm 109 s))/\Hid (V4 W z)/\z.cell? ⟨N (E w),0,U⟩=S (H a)):=λu G P=>(iS s u hs (af.below (cT G))).mono λe z ⟨he,I⟩=>⟨he,CT G P I⟩
  have an:Hid (∀u,Hid (V4 W u)->u.cell? ⟨N (E w),0,U⟩=S (H a)->V7 prog 82 #[Z Y (s:Int)] u λe z=>e=.returned (H (nm 118 s))/\Hid (V4 W z)/\z.cell? ⟨N (E w),0,U⟩=S (H a)):=λu G P=>(kO s u hs (af.below (cT G))).mono λe z ⟨he,I⟩=>⟨he,CT G P I⟩
  have B:zV a s=(decide (a=nm 99 s) || decide (a=nm 109 s) || decide (a=nm 118 s)):=rfl;obtain⟨N1,aL⟩:∃r,nm 99 s=r:=⟨_,rfl⟩
  obtain⟨N2,aM⟩:∃r,nm 109 s=r:=⟨_,rfl⟩
  obtain⟨N3,aN⟩:∃r,nm 118 s=r:=⟨_,rfl⟩
  rw[aL] at aa B;rw[aM] at ag B;rw[aN] at an B;have C:Hid (zV a s=We->∀u,V4 W u->u.cell? ⟨N (E w)+1,0,U⟩=S (Wa Wg)/\u.frozen? ⟨N (E w)+1,0,U⟩=Wg/\Hid (KeepsFrom (N (E L)) W (u.setCell ⟨N (E w)+1,0,U⟩ (Wa We))/\(((u.setCell ⟨N (E w)+1,0,U⟩ (Wa We)).heap[N (E w)+1]?=S (D #[Wa We] 4 (0,0))/\Below (N (E w)) L (u.setCell ⟨N (E w)+1,0,U⟩ (Wa We)))/\((T.map (·.1)).any (zV a)=We/\Code.ret=Code.ret)))):=by
   show _->_
   intro hy u I;have e1:=(I.block _ (cX A)).trans A;refine⟨by rw[Ti u _ 0 _ _ _ e1];rfl,by simp[World.frozen?,e1],?_⟩;have hB:=(F.trans (I.mono aE)).setCell (p:=⟨N (E w)+1,0,U⟩) (show (N (E w))<=N (E w)+1 by omega) (Wa We);refine⟨?_,⟨Tq u _ 0 _ _ _ e1,hB⟩,by rw[hIn,hy];rfl,O⟩;refine((⟨I.size,λk o hk _=>(I.block k (Ts.1 hk).1).trans hk⟩:KeepsOthers W u).trans (KeepsOthers.setCell u _ _)).from _
  have ab:Hid (zV a s=Wg->∀u,V4 W u->KeepsFrom (N (E L)) W u/\fV (N (E w)) (λ_=>True) W u/\((u.heap[N (E w)+1]?=S (D #[Wa Wg] 4 (0,0))/\u.heap[N (E w)]?=S (D #[H a] 9 (0,0))/\Below (N (E w)) L u)/\((t++[(⟨(s,ce),hy⟩:{ x:Nat × Sn.Ce // x∈T })]).any λx=>zV a x.1.1)=Wg)):=by
   show _->_
   intro hn u I;refine⟨(⟨I.size,λk o hk _=>(I.block k (Ts.1 hk).1).trans hk⟩:KeepsOthers W u).from _,⟨I.os,I.tape,I.output,I.size,λk hk _=>I.block k (by omega)⟩,⟨(I.block _ (cX A)).trans A,(I.block _ (cX R)).trans R,F.trans (I.mono aE)⟩,?_⟩;rw[List.any_append,aj];simpa using hn
  unfold Rt.kU;clear A R F aj hIn af CT az aA aB ay ax aC aD ae HS M aK;by_cases G:a=N1
  .have e1:(a.toList == N1.toList)=We:=by rw[G];simp
   have hF:zV a s=We:=by rw[B,G];simp
   have HY:=cU (cT C hF);have aU:=cU G;clear C ab hF B G
   gi_wp2
   gi_region_with (first
   |(refine⟨trivial,?_⟩;gi_at_call 79;refine(Ve l' ((UF (n:=_)).2 ((cT aa) _ (by assumption) (by assumption)))).mono ?_;rintro e w1 ⟨rfl,ah,n1⟩)
    | (refine⟨trivial,?_⟩))
   all_goals
    obtain⟨y0,y1,V⟩:=cT HY w1 (cT ah)
    gi_wp2
    have q:=cT V;exact⟨q.1,q.2.1,q.2.2.1,O⟩
  .have e1:(a.toList == N1.toList)=Wg:=Tt.2 (λh=>G (Sd.toList_inj h));by_cases P:a=N2
   .have e2:(a.toList == N2.toList)=We:=by rw[P];simp
    have hF:zV a s=We:=by rw[B,P];simp
    have HY:=cU (cT C hF);clear C ab hF B G;have aO:=cU P;clear P
    gi_wp2
    gi_region_with (first
    |(refine⟨trivial,?_⟩;gi_at_call 79;refine(Ve l' ((UF (n:=_)).2 ((cT aa) _ (by assumption) (by assumption)))).mono ?_;rintro e w1 ⟨rfl,ah,n1⟩)
    |(refine⟨trivial,?_⟩;gi_at_call 81;refine(Ve l' ((UF (n:=_)).2 ((cT ag) _ (by assumption) (by assumption)))).mono ?_;rintro e w2 ⟨rfl,ao,n2⟩)
     | (refine⟨trivial,?_⟩))
    all_goals
     obtain⟨y0,y1,V⟩:=cT HY w2 (cT ao)
     gi_wp2
     have q:=cT V;exact⟨q.1,q.2.1,q.2.2.1,O⟩
   .have e2:(a.toList == N2.toList)=Wg:=Tt.2 (λh=>P (Sd.toList_inj h));by_cases h3:a=N3
    .have e3:(a.toList == N3.toList)=We:=by rw[h3];simp
     have hF:zV a s=We:=by rw[B,h3];simp
     have HY:=cU (cT C hF);clear C ab hF B G P;have aO:=cU h3;clear h3
     gi_wp2
     gi_region_with (first
     |(refine⟨trivial,?_⟩;gi_at_call 79;refine(Ve l' ((UF (n:=_)).2 ((cT aa) _ (by assumption) (by assumption)))).mono ?_;rintro e w1 ⟨rfl,ah,n1⟩)
     |(refine⟨trivial,?_⟩;gi_at_call 81;refine(Ve l' ((UF (n:=_)).2 ((cT ag) _ (by assumption) (by assumption)))).mono ?_;rintro e w2 ⟨rfl,ao,n2⟩)
     |(refine⟨trivial,?_⟩;gi_at_call 82;refine(Ve l' ((UF (n:=_)).2 ((cT an) _ (by assumption) (by assumption)))).mono ?_;rintro e w3 ⟨rfl,aq,n3⟩)
      | (refine⟨trivial,?_⟩))
     all_goals
      obtain⟨y0,y1,V⟩:=cT HY w3 (cT aq)
      gi_wp2
      have q:=cT V;exact⟨q.1,q.2.1,q.2.2.1,O⟩
    .have e3:(a.toList == N3.toList)=Wg:=Tt.2 (λh=>h3 (Sd.toList_inj h));have hF:zV a s=Wg:=by rw[B,TE G,TE P,TE h3];rfl
     have HY:=cU (cT ab hF);clear C ab hF B G P h3
     gi_wp2
     gi_region_with (first
     |(refine⟨trivial,?_⟩;gi_at_call 79;refine(Ve l' ((UF (n:=_)).2 ((cT aa) _ (by assumption) (by assumption)))).mono ?_;rintro e w1 ⟨rfl,ah,n1⟩)
     |(refine⟨trivial,?_⟩;gi_at_call 81;refine(Ve l' ((UF (n:=_)).2 ((cT ag) _ (by assumption) (by assumption)))).mono ?_;rintro e w2 ⟨rfl,ao,n2⟩)
     |(refine⟨trivial,?_⟩;gi_at_call 82;refine(Ve l' ((UF (n:=_)).2 ((cT an) _ (by assumption) (by assumption)))).mono ?_;rintro e w3 ⟨rfl,aq,n3⟩)
      | (refine⟨trivial,?_⟩))
     all_goals
      have V:=cU (cT HY w3 (cT aq))
      gi_wp2
      exact cT V
 case done =>
  rintro Dd ys W aV aF ⟨⟨A,R,F⟩,aG⟩ hK;have ad:=M.trans F;have aH:bk=Wg:=by
   rw[<-cT ae,E5,List.any_map,<-VZ T,List.any_map,<-aF];exact aG
  subst aH;have u0:W.cell? ⟨N (E w)+1,0,U⟩=S (Wa Wg):=by rw[Ti W _ 0 _ _ _ A];rfl
  have uf:W.frozen? ⟨N (E w)+1,0,U⟩=Wg:=by simp[World.frozen?,A]
  have ai:N (E w)+1≠Dd:=by omega
  have aP:Hid ((W.setCell ⟨N (E w)+1,0,U⟩ (Wa Wg)).heap[Dd]?=S (.deferred (S []))):=(Tv W _ _ Dd (UC ai)).trans hK;have aI:Hid (V4 w (W.setCell ⟨N (E w)+1,0,U⟩ (Wa Wg))):=ad.setCell (p:=⟨N (E w)+1,0,U⟩) (by simp) _;have HQ:Hid (∀o,((W.setCell ⟨N (E w)+1,0,U⟩ (Wa Wg)).putObj Dd o).cell? ⟨N (E w)+1,0,U⟩=S (Wa Wg)):=λo=>by
   show World.cell? _ _=_
   rw[Ti _ _ 0 _ _ _ ((World.putObj_heap_other ai).trans (Tq W _ 0 _ _ (Wa Wg) A))];rfl
  clear aF A R aG F hK ad
  gi_wp2
  refine⟨by simp,.inl ⟨_,_,O,run_takeDeferred (cT aP),?_⟩⟩;refine⟨Wa Wg,by simp[results,results90,go_sem,cT HQ],O,?_⟩;exact(cT aI).grown (Vy _ Dd _) (cT aI).size (λk hk=>by cases hk;omega)
 case stop =>
  rintro D' c t W aW _ ⟨⟨A,F⟩,ak,rfl⟩ hK;have ad:=M.trans F;have ar:bk=We:=by rw[<-cT ae,E5];exact ak
  subst ar;have u0:W.cell? ⟨N (E w)+1,0,U⟩=S (Wa We):=by rw[Ti W _ 0 _ _ _ A];rfl
  have ai:N (E w)+1≠D':=by omega
  have HQ:Hid (∀o,(W.putObj D' o).cell? ⟨N (E w)+1,0,U⟩=S (Wa We)):=λo=>by
   show World.cell? _ _=_
   rw[Ti _ _ 0 _ _ _ ((World.putObj_heap_other ai).trans A)];rfl
  clear A ak F
  gi_wp2
  refine⟨by simp,.inl ⟨_,_,O,run_takeDeferred hK,?_⟩⟩;refine⟨Wa We,by simp[results,results90,go_sem,cT HQ],O,?_⟩;exact ad.grown (Vy W D' _) ad.size (λk hk=>by cases hk;omega)
end Ru
end Go.Proofs.YtgkkdpegcieakaaGreatDoor
