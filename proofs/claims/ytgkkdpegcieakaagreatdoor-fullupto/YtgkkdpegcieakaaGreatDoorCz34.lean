import Derived.Test.YtgkkdpegcieakaaGreatDoorCz33
set_option linter.unusedVariables false
set_option linter.unusedSimpArgs false
set_option maxRecDepth 100000
set_option maxHeartbeats 16000000
namespace Go.Proofs.YtgkkdpegcieakaaGreatDoor
open Go.Proofs.Tryz
open Value renaming int→Z
open IntKind renaming i64→Y
open Go renaming World→TJ,Value→TK,Calls→TL
namespace Ru
open Go.RowKit
open Rd (Rk)
open Pk (jo Sm cZ cS cY)
open Dk (Kept fI)
open Rt
open Go.Shelf
attribute [local go_sem] Oper.semAt_some
def zy(a:TM)(s:Nat):Bool:=decide (a=nm 99 s) || decide (a=nm 109 s) || decide (a=nm 118 s)
theorem Ej{K:List Nat}{a:TM}:B5 K a=K.any (zy a):=by
 apply Bool.eq_iff_iff.2;rw[nT,Ci];constructor
 .rintro⟨s,b,h⟩;refine⟨s,b,?_⟩;unfold zy;simpa [or_assoc] using h
 .rintro⟨s,b,h⟩;refine⟨s,b,?_⟩;unfold zy at h;simpa [or_assoc] using h
theorem pG(S D cX n cU:Nat)(v:TK)(T:Sn.Tb)(a:TM)(w:TJ)(h:gF w S D cX n cU v T)(hT:∀x∈T,x.1<=9999999999)(ak:gh w):TL prog 90 #[.pointer (some ⟨S,0,none⟩),.string a] w λe w'=>e=.returned (.bool (B5 (T.map (·.1)) a))/\TI w w':=by
 obtain⟨bk,V⟩:∃bk,Hid (B5 (T.map (·.1)) a=bk):=⟨_,rfl⟩
 rw[cO V];refine(FY (n:=5)).1 ?_;refine callsIn_of_wp_marks func90 rfl trivial ?_ rfl;simp only[ntmps90,GK,cD,Bb,Nat.reduceAdd,Nat.reduceSub,Jx,JK,Kk,KA,sj,mf];obtain⟨p,an,ao,L⟩:=Rt.dM h.tab.row;have HS:=cP h;have aE:S<w.heap.size:=h.lt
 gi_wp2_with (refine⟨trivial,?_⟩;gi_at_call 132;refine(Rt.qu _ _ trivial rfl _ _).mono ?_;rintro e w' ⟨rfl,rfl⟩)
 obtain⟨E,H⟩:∃E,(((w.alloc (.cells #[.string a] 9)).alloc (.cells #[.bool false] 4)).alloc (.cells #[.pointer (some ⟨S,4,none⟩)] 177))=E:=⟨_,rfl⟩
 have aF:E.heap.size=w.heap.size+3:=by rw[<-H];simp
 have F:TI w E:=by rw[<-H];exact(((cj _ w).alloc TG _).alloc (by simp) _).alloc (by simp;omega) _
 have aq:E.heap[w.heap.size]?=some (.cells #[.string a] 9 (0,0)):=by
  rw[<-H,cN _ _ _ (by simp;omega),cN _ _ _ (by simp)];exact G1 w _
 have ar:E.heap[w.heap.size+1]?=some (.cells #[.bool false] 4 (0,0)):=by
  have:=G1 (w.alloc (.cells #[.string a] 9)) (.cells #[.bool false] 4);rw[ee] at this;rw[<-H,cN _ _ _ (by simp)];exact this
 have au:E.cell? ⟨w.heap.size+1+1,0,none⟩=some (.pointer (some ⟨S,4,none⟩)):=by
  have:=G1 ((w.alloc (.cells #[.string a] 9)).alloc (.cells #[.bool false] 4)) (.cells #[.pointer (some ⟨S,4,none⟩)] 177);rw[ee,ee,H] at this;simp[World.cell?,this]
 have av:E.cell? ⟨S,4,none⟩=some (.slice p T.length an):=by
  rw[F.cell (p:=⟨S,4,none⟩) aE,cn w S 4 _ _ _ h.tab.blk,<-ao];rfl
 have hl:=h.tab.len;have aw:∀j (hj:j<T.length),∃g,p=some ⟨g,0,none⟩/\g<w.heap.size/\True/\E.cell? ⟨g,j*4,none⟩=some (Z Y (T[j].1:Int))/\E.cell? ⟨g,j*4+1,none⟩=some (Z Y (T[j].1:Int))/\E.cell? ⟨g,j*4+2,none⟩=some (.slice T[j].2.p T[j].2.n T[j].2.c)/\E.cell? ⟨g,j*4+3,none⟩=some (Z Y T[j].2.al):=λj hj=>by
  obtain⟨g,e,c0,c1,c2,c3⟩:=L j hj;have hg:=cE w _ c0;exact⟨g,e,hg,trivial,(F.cell (p:=⟨g,j*4,none⟩) hg).trans c0,(F.cell (p:=⟨g,j*4+1,none⟩) hg).trans c1,(F.cell (p:=⟨g,j*4+2,none⟩) hg).trans c2,(F.cell (p:=⟨g,j*4+3,none⟩) hg).trans c3⟩
 have ax:=cP ak;have ay:=cP hT;rw[H];clear H L ao h ak hT;refine wpIn_rangeFunc_ownG rfl (by omega) (gf:=208) (lb := #[.pointer (some ⟨w.heap.size+1+1,0,none⟩)]) rfl trivial (enters_of func208 (by kernel_rfl) rfl)
  (Rt.kG _ _ trivial rfl (by omega) (w.heap.size+1+1) S 4 w.heap.size (λ_=>True) p an T hl E (by omega) (by omega) (by omega) au av aw) (λh k=>h.trans k) (Pk.rR (by omega)) (cj _ _) (λ_=>rfl)
  (λM W=>(W.heap[w.heap.size+1]?=some (.cells #[.bool false] 4 (0,0))/\W.heap[w.heap.size]?=some (.cells #[.string a] 9 (0,0))/\Below w.heap.size E W)/\(M.any λx=>zy a x.1.1)=false)
  (λc M W=>(W.heap[w.heap.size+1]?=some (.cells #[.bool true] 4 (0,0))/\Below w.heap.size E W)/\((T.map (·.1)).any (zy a)=true/\c=.ret))
  (OwnFrom.and (OwnFrom.and (Pk.JY _ _ (λ_=>Obj.cells #[.bool false] 4 (0,0)) (λ_=>rfl)) (OwnFrom.and (Pk.JY _ _ (λ_=>Obj.cells #[.string a] 9 (0,0)) (λ_=>rfl)) (ownFrom_below (by omega) (by omega)))) (ownFrom_pure _ _))
  (λc=>OwnFrom.and (OwnFrom.and (Pk.JY _ _ (λ_=>Obj.cells #[.bool true] 4 (0,0)) (λ_=>rfl)) (ownFrom_below (by omega) (by omega))) (ownFrom_pure _ _))
  ⟨⟨ar,aq,cj _ _⟩,rfl⟩
  (λy=>{ tmps := #[.pointer (some ⟨S,0,none⟩),.string a,undef,.pointer (some ⟨w.heap.size,0,none⟩),.pointer (some ⟨w.heap.size+1,0,none⟩),Z Y (y.1.1:Int),.pointer (some ⟨S,0,none⟩),.pointer (some ⟨S,0,none⟩),.pointer (some ⟨S,4,none⟩),.func (.func 208) #[] #[.pointer (some ⟨w.heap.size+1+1,0,none⟩)],Z Y (y.1.1:Int),Rt.kQ y.1.1 y.1.2,undef,undef,undef,undef,undef,undef,undef,undef,undef,undef,undef,undef,undef,undef,undef,undef],defers:=[] }) ?assign ?body ?done ?stop
 case assign =>
  intro l y W K hK
  gi_wp2
  exact hK
 case body =>
  rintro X M ⟨⟨s,ce⟩,hy⟩ W ⟨⟨r,I,A⟩,ae⟩ aL;have hs:=(cO ay) (s,ce) hy;dsimp only at hs;have t:gh W:=(cO ax).below (F.trans A);have n0:W.cell? ⟨w.heap.size,0,none⟩=some (.string a):=by rw[cn W _ 0 _ _ _ I];rfl
  have nd:W.drew.cell? ⟨w.heap.size,0,none⟩=some (.string a):=n0;have hIn:(T.map (·.1)).any (zy a)=(zy a s || (T.map (·.1)).any (zy a)):=by
   cases hq:zy a s with
   |false=>rfl
   |true=>rw[Bool.true_or];exact Ci.2 ⟨s,xD.2 ⟨(s,ce),hy,rfl⟩,hq⟩
  have aM:Hid (TI W W):=cj _ _;have aN:Hid (TI W W.drew):=TH.drew;have aO:w.heap.size<W.heap.size:=cS I;have az:w.heap.size<=W.heap.size:=by omega
  have CT:∀{b:TJ} {m:TJ},Hid (TI W b)->b.cell? ⟨w.heap.size,0,none⟩=some (.string a)->TI b m->Hid (TI W m)/\m.cell? ⟨w.heap.size,0,none⟩=some (.string a):=λ{b m} B G R =>
   ⟨(cO B).trans (R.mono (cO B).size),(R.cell (p:=⟨w.heap.size,0,none⟩) (cE b _ G)).trans G⟩
  have O:Hid (∀b,Hid (TI W b)->b.cell? ⟨w.heap.size,0,none⟩=some (.string a)->TL prog 79 #[Z Y (s:Int)] b λe m=>e=.returned (.string (nm 99 s))/\Hid (TI W m)/\m.cell? ⟨w.heap.size,0,none⟩=some (.string a)):=λb B G=>(kO s b hs (t.below (cO B))).mono λe m ⟨he,C⟩=>⟨he,CT B G C⟩
  have aa:Hid (∀b,Hid (TI W b)->b.cell? ⟨w.heap.size,0,none⟩=some (.string a)->TL prog 81 #[Z Y (s:Int)] b λe m=>e=.returned (.string (nm 109 s))/\Hid (TI W m)/\m.cell? ⟨w.heap.size,0,none⟩=some (.string a)):=λb B G=>(iX s b hs (t.below (cO B))).mono λe m ⟨he,C⟩=>⟨he,CT B G C⟩
  have ag:Hid (∀b,Hid (TI W b)->b.cell? ⟨w.heap.size,0,none⟩=some (.string a)->TL prog 82 #[Z Y (s:Int)] b λe m=>e=.returned (.string (nm 118 s))/\Hid (TI W m)/\m.cell? ⟨w.heap.size,0,none⟩=some (.string a)):=λb B G=>(kP s b hs (t.below (cO B))).mono λe m ⟨he,C⟩=>⟨he,CT B G C⟩
  have u:zy a s=(decide (a=nm 99 s) || decide (a=nm 109 s) || decide (a=nm 118 s)):=rfl;obtain⟨N1,aG⟩:∃N,nm 99 s=N:=⟨_,rfl⟩
  obtain⟨N2,aH⟩:∃N,nm 109 s=N:=⟨_,rfl⟩
  obtain⟨N3,aI⟩:∃N,nm 118 s=N:=⟨_,rfl⟩
  rw[aG] at O u;rw[aH] at aa u;rw[aI] at ag u;have z:Hid (zy a s=true->∀b,TI W b->b.cell? ⟨w.heap.size+1,0,none⟩=some (.bool false)/\b.frozen? ⟨w.heap.size+1,0,none⟩=false/\Hid (KeepsFrom E.heap.size W (b.setCell ⟨w.heap.size+1,0,none⟩ (.bool true))/\(((b.setCell ⟨w.heap.size+1,0,none⟩ (.bool true)).heap[w.heap.size+1]?=some (.cells #[.bool true] 4 (0,0))/\Below w.heap.size E (b.setCell ⟨w.heap.size+1,0,none⟩ (.bool true)))/\((T.map (·.1)).any (zy a)=true/\Code.ret=Code.ret)))):=by
   show _->_
   intro hy b C;have e1:=(C.block _ (cS r)).trans r;refine⟨by rw[cn b _ 0 _ _ _ e1];rfl,by simp[World.frozen?,e1],?_⟩;have hB:=(A.trans (C.mono az)).setCell (p:=⟨w.heap.size+1,0,none⟩) (show w.heap.size<=w.heap.size+1 by omega) (.bool true);refine⟨?_,⟨cA b _ 0 _ _ _ e1,hB⟩,by rw[hIn,hy];rfl,rfl⟩;refine((⟨C.size,λk o U _=>(C.block k (cB.1 U).1).trans U⟩:KeepsOthers W b).trans (KeepsOthers.setCell b _ _)).from _
  have P:Hid (zy a s=false->∀b,TI W b->KeepsFrom E.heap.size W b/\fI w.heap.size (λ_=>True) W b/\((b.heap[w.heap.size+1]?=some (.cells #[.bool false] 4 (0,0))/\b.heap[w.heap.size]?=some (.cells #[.string a] 9 (0,0))/\Below w.heap.size E b)/\((M++[(⟨(s,ce),hy⟩:{ x:Nat × Sn.Ce // x∈T })]).any λx=>zy a x.1.1)=false)):=by
   show _->_
   intro hn b C;refine⟨(⟨C.size,λk o U _=>(C.block k (cB.1 U).1).trans U⟩:KeepsOthers W b).from _,⟨C.os,C.tape,C.output,C.size,λk U _=>C.block k (by omega)⟩,⟨(C.block _ (cS r)).trans r,(C.block _ (cS I)).trans I,A.trans (C.mono az)⟩,?_⟩;rw[List.any_append,ae];simpa using hn
  unfold Rt.kQ;clear r I A ae hIn t CT au av aw ar aq ax ay V HS F aF;by_cases B:a=N1
  .have e1:(a.toList == N1.toList)=true:=by rw[B];simp
   have hF:zy a s=true:=by rw[u,B];simp
   have HY:=cP (cO z hF);have aP:=cP B;clear z P hF u B
   gi_wp2
   gi_region_with (first
   |(refine⟨trivial,?_⟩;gi_at_call 79;refine(SV X ((FY (n:=_)).2 ((cO O) _ (by assumption) (by assumption)))).mono ?_;rintro e w1 ⟨rfl,ab,n1⟩)
    |(refine⟨trivial,?_⟩))
   all_goals
    obtain⟨y0,y1,J⟩:=cO HY w1 (cO ab)
    gi_wp2
    have q:=cO J;exact⟨q.1,q.2.1,q.2.2.1,rfl⟩
  .have e1:(a.toList == N1.toList)=false:=cC.2 (λh=>B (Sd.toList_inj h));by_cases G:a=N2
   .have e2:(a.toList == N2.toList)=true:=by rw[G];simp
    have hF:zy a s=true:=by rw[u,G];simp
    have HY:=cP (cO z hF);clear z P hF u B;have aJ:=cP G;clear G
    gi_wp2
    gi_region_with (first
    |(refine⟨trivial,?_⟩;gi_at_call 79;refine(SV X ((FY (n:=_)).2 ((cO O) _ (by assumption) (by assumption)))).mono ?_;rintro e w1 ⟨rfl,ab,n1⟩)
    |(refine⟨trivial,?_⟩;gi_at_call 81;refine(SV X ((FY (n:=_)).2 ((cO aa) _ (by assumption) (by assumption)))).mono ?_;rintro e w2 ⟨rfl,ah,n2⟩)
     |(refine⟨trivial,?_⟩))
    all_goals
     obtain⟨y0,y1,J⟩:=cO HY w2 (cO ah)
     gi_wp2
     have q:=cO J;exact⟨q.1,q.2.1,q.2.2.1,rfl⟩
   .have e2:(a.toList == N2.toList)=false:=cC.2 (λh=>G (Sd.toList_inj h));by_cases R:a=N3
    .have e3:(a.toList == N3.toList)=true:=by rw[R];simp
     have hF:zy a s=true:=by rw[u,R];simp
     have HY:=cP (cO z hF);clear z P hF u B G;have aJ:=cP R;clear R
     gi_wp2
     gi_region_with (first
     |(refine⟨trivial,?_⟩;gi_at_call 79;refine(SV X ((FY (n:=_)).2 ((cO O) _ (by assumption) (by assumption)))).mono ?_;rintro e w1 ⟨rfl,ab,n1⟩)
     |(refine⟨trivial,?_⟩;gi_at_call 81;refine(SV X ((FY (n:=_)).2 ((cO aa) _ (by assumption) (by assumption)))).mono ?_;rintro e w2 ⟨rfl,ah,n2⟩)
     |(refine⟨trivial,?_⟩;gi_at_call 82;refine(SV X ((FY (n:=_)).2 ((cO ag) _ (by assumption) (by assumption)))).mono ?_;rintro e w3 ⟨rfl,ai,n3⟩)
      |(refine⟨trivial,?_⟩))
     all_goals
      obtain⟨y0,y1,J⟩:=cO HY w3 (cO ai)
      gi_wp2
      have q:=cO J;exact⟨q.1,q.2.1,q.2.2.1,rfl⟩
    .have e3:(a.toList == N3.toList)=false:=cC.2 (λh=>R (Sd.toList_inj h));have hF:zy a s=false:=by rw[u,df B,df G,df R];rfl
     have HY:=cP (cO P hF);clear z P hF u B G R
     gi_wp2
     gi_region_with (first
     |(refine⟨trivial,?_⟩;gi_at_call 79;refine(SV X ((FY (n:=_)).2 ((cO O) _ (by assumption) (by assumption)))).mono ?_;rintro e w1 ⟨rfl,ab,n1⟩)
     |(refine⟨trivial,?_⟩;gi_at_call 81;refine(SV X ((FY (n:=_)).2 ((cO aa) _ (by assumption) (by assumption)))).mono ?_;rintro e w2 ⟨rfl,ah,n2⟩)
     |(refine⟨trivial,?_⟩;gi_at_call 82;refine(SV X ((FY (n:=_)).2 ((cO ag) _ (by assumption) (by assumption)))).mono ?_;rintro e w3 ⟨rfl,ai,n3⟩)
      |(refine⟨trivial,?_⟩))
     all_goals
      have J:=cP (cO HY w3 (cO ai))
      gi_wp2
      exact cO J
 case done =>
  rintro Dd ys W aQ aA ⟨⟨r,I,A⟩,aB⟩ hK;have Q:=F.trans A;have aC:bk=false:=by
   rw[<-cO V,Ej,List.any_map,<-List.attach_map_subtype_val T,List.any_map,<-aA];exact aB
  subst aC;have u0:W.cell? ⟨w.heap.size+1,0,none⟩=some (.bool false):=by rw[cn W _ 0 _ _ _ r];rfl
  have uf:W.frozen? ⟨w.heap.size+1,0,none⟩=false:=by simp[World.frozen?,r]
  have ad:w.heap.size+1≠Dd:=by omega
  have aK:Hid ((W.setCell ⟨w.heap.size+1,0,none⟩ (.bool false)).heap[Dd]?=some (.deferred (some []))):=(cG W _ _ Dd (Ne.symm ad)).trans hK;have aD:Hid (TI w (W.setCell ⟨w.heap.size+1,0,none⟩ (.bool false))):=Q.setCell (p:=⟨w.heap.size+1,0,none⟩) (by simp) _;have HQ:Hid (∀o,((W.setCell ⟨w.heap.size+1,0,none⟩ (.bool false)).putObj Dd o).cell? ⟨w.heap.size+1,0,none⟩=some (.bool false)):=λo=>by
   show World.cell? _ _=_
   rw[cn _ _ 0 _ _ _ ((World.putObj_heap_other ad).trans (cA W _ 0 _ _ (.bool false) r))];rfl
  clear aA r I aB A hK Q
  gi_wp2
  refine⟨by simp,.inl ⟨_,_,rfl,run_takeDeferred (cO aK),?_⟩⟩;refine⟨.bool false,by simp[results,results90,go_sem,cO HQ],rfl,?_⟩;exact(cO aD).grown (Tl _ Dd _) (cO aD).size (λk U=>by cases U;omega)
 case stop =>
  rintro D' c M W aR _ ⟨⟨r,A⟩,af,rfl⟩ hK;have Q:=F.trans A;have aj:bk=true:=by rw[<-cO V,Ej];exact af
  subst aj;have u0:W.cell? ⟨w.heap.size+1,0,none⟩=some (.bool true):=by rw[cn W _ 0 _ _ _ r];rfl
  have ad:w.heap.size+1≠D':=by omega
  have HQ:Hid (∀o,(W.putObj D' o).cell? ⟨w.heap.size+1,0,none⟩=some (.bool true)):=λo=>by
   show World.cell? _ _=_
   rw[cn _ _ 0 _ _ _ ((World.putObj_heap_other ad).trans r)];rfl
  clear r af A
  gi_wp2
  refine⟨by simp,.inl ⟨_,_,rfl,run_takeDeferred hK,?_⟩⟩;refine⟨.bool true,by simp[results,results90,go_sem,cO HQ],rfl,?_⟩;exact Q.grown (Tl W D' _) Q.size (λk U=>by cases U;omega)
end Ru
end Go.Proofs.YtgkkdpegcieakaaGreatDoor
