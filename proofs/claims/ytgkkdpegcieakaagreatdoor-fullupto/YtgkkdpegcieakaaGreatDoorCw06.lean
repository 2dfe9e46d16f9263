import Derived.Test.YtgkkdpegcieakaaGreatDoorCw05
set_option linter.all false
set_option maxRecDepth 100000
set_option maxHeartbeats 16000000
namespace Go.Proofs.YtgkkdpegcieakaaGreatDoor
open Go.Proofs.Tryz
open Value renaming int→Z,slice→J,string→H,pointer→WV,bool→WW,tuple→WX
open Ending renaming returned→WZ
open Obj renaming cells→D
open Option renaming none→U,some→S
open Bool renaming true→W8,false→W9
open Or renaming inl→Xa,inr→Xb
open _root_.Array renaming size→K
open World renaming cell?→Xc,heap→E
open IntKind renaming i64→Y
open Go renaming World→WR,Value→WS,Calls→WT
open Go.RowKit
section
def Sp.yC:List (List UInt8):=[[118,97,108,117,101],[111,108,100],[105,110],[103,111,116],[115,116,101,112],[105,100],[100,101,103],[97,108,108],[119,101,105,103,104,116],[43],[45],[42],[47],[37],[60],[61],[109,105,110],[109,97,120],[100,117,112],[100,114,111,112],[115,119,97,112],[111,118,101,114],[63],[91],[93]]
def Rw:List Nat:=[161,163,164,165,166,167,168,169,170,171,173,174,175,177,178,180,181,182,183,185,186,187,188,190,192]
def zh:Array WS := #[H ⟨#[118,97,108,117,101]⟩,WW W9,.func (.func 161) #[] #[],
 H ⟨#[111,108,100]⟩,WW W9,.func (.func 163) #[] #[],
 H ⟨#[105,110]⟩,WW W9,.func (.func 164) #[] #[],
 H ⟨#[103,111,116]⟩,WW W9,.func (.func 165) #[] #[],
 H ⟨#[115,116,101,112]⟩,WW W9,.func (.func 166) #[] #[],
 H ⟨#[105,100]⟩,WW W9,.func (.func 167) #[] #[],
 H ⟨#[100,101,103]⟩,WW W9,.func (.func 168) #[] #[],
 H ⟨#[97,108,108]⟩,WW W9,.func (.func 169) #[] #[],
 H ⟨#[119,101,105,103,104,116]⟩,WW W8,.func (.func 170) #[] #[],
 H ⟨#[43]⟩,WW W9,.func (.func 171) #[] #[],
 H ⟨#[45]⟩,WW W9,.func (.func 173) #[] #[],
 H ⟨#[42]⟩,WW W9,.func (.func 174) #[] #[],
 H ⟨#[47]⟩,WW W9,.func (.func 175) #[] #[],
 H ⟨#[37]⟩,WW W9,.func (.func 177) #[] #[],
 H ⟨#[60]⟩,WW W9,.func (.func 178) #[] #[],
 H ⟨#[61]⟩,WW W9,.func (.func 180) #[] #[],
 H ⟨#[109,105,110]⟩,WW W9,.func (.func 181) #[] #[],
 H ⟨#[109,97,120]⟩,WW W9,.func (.func 182) #[] #[],
 H ⟨#[100,117,112]⟩,WW W9,.func (.func 183) #[] #[],
 H ⟨#[100,114,111,112]⟩,WW W9,.func (.func 185) #[] #[],
 H ⟨#[115,119,97,112]⟩,WW W9,.func (.func 186) #[] #[],
 H ⟨#[111,118,101,114]⟩,WW W9,.func (.func 187) #[] #[],
 H ⟨#[63]⟩,WW W9,.func (.func 188) #[] #[],
 H ⟨#[91]⟩,WW W9,.func (.func 190) #[] #[],
 H ⟨#[93]⟩,WW W9,.func (.func 192) #[] #[]]
def ia(b:Nat)(w:WR):Prop:=w.heap[b]?=S (D zh 275)
theorem GR(w:WR):WT prog 109 #[] w λe b=>e=WZ (J (S ⟨K (E w),0,U⟩) 25 25)/\WQ w b/\ia (K (E w)) b:=by
 go_enter func109,ntmps109;go_wp2;exact T8 (v := J (S ⟨K (E w),0,U⟩) 25 25) (by simp[results,results109,go_sem]) O ⟨O,WO.alloc WN _,Array.getElem?_push_size⟩
def yv(i:Nat):WU:=⟨⟨Sp.yC[i]!⟩⟩
def sD(i:Nat):Bool:=i == 8
def oH(i:Nat):WS := .func (.func (Rw[i]!)) #[] #[]
theorem Rx:(i:Nat)->i<25->zh[3*i]?=S (H (yv i))
 |0,_=>rfl
 |1,_=>rfl
 |2,_=>rfl
 |3,_=>rfl
 |4,_=>rfl
 |5,_=>rfl
 |6,_=>rfl
 |7,_=>rfl
 |8,_=>rfl
 |9,_=>rfl
 |10,_=>rfl
 |11,_=>rfl
 |12,_=>rfl
 |13,_=>rfl
 |14,_=>rfl
 |15,_=>rfl
 |16,_=>rfl
 |17,_=>rfl
 |18,_=>rfl
 |19,_=>rfl
 |20,_=>rfl
 |21,_=>rfl
 |22,_=>rfl
 |23,_=>rfl
 |24,_=>rfl
 |n+25,h=>absurd h (by omega)
theorem SK:(i:Nat)->i<25->zh[3*i+1]?=S (WW (sD i))
 |0,_=>rfl
 |1,_=>rfl
 |2,_=>rfl
 |3,_=>rfl
 |4,_=>rfl
 |5,_=>rfl
 |6,_=>rfl
 |7,_=>rfl
 |8,_=>rfl
 |9,_=>rfl
 |10,_=>rfl
 |11,_=>rfl
 |12,_=>rfl
 |13,_=>rfl
 |14,_=>rfl
 |15,_=>rfl
 |16,_=>rfl
 |17,_=>rfl
 |18,_=>rfl
 |19,_=>rfl
 |20,_=>rfl
 |21,_=>rfl
 |22,_=>rfl
 |23,_=>rfl
 |24,_=>rfl
 |n+25,h=>absurd h (by omega)
theorem RM:(i:Nat)->i<25->zh[3*i+2]?=S (oH i)
 |0,_=>rfl
 |1,_=>rfl
 |2,_=>rfl
 |3,_=>rfl
 |4,_=>rfl
 |5,_=>rfl
 |6,_=>rfl
 |7,_=>rfl
 |8,_=>rfl
 |9,_=>rfl
 |10,_=>rfl
 |11,_=>rfl
 |12,_=>rfl
 |13,_=>rfl
 |14,_=>rfl
 |15,_=>rfl
 |16,_=>rfl
 |17,_=>rfl
 |18,_=>rfl
 |19,_=>rfl
 |20,_=>rfl
 |21,_=>rfl
 |22,_=>rfl
 |23,_=>rfl
 |24,_=>rfl
 |n+25,h=>absurd h (by omega)
theorem Cx{b:Nat}{w:WR}(h:ia b w){i:Nat}(hi:i<25):w.cell? ⟨b,3*i,U⟩=S (H (yv i))/\w.cell? ⟨b,3*i+1,U⟩=S (WW (sD i))/\w.cell? ⟨b,3*i+2,U⟩=S (oH i):=by
 unfold ia at h;refine⟨?_,?_,?_⟩ <;> simp only[Xc,h]
 .exact Rx i hi
 .exact SK i hi
 .exact RM i hi
theorem ia.below{b:Nat}{w w':WR}(h:ia b w)(hb:WQ w w'):ia b w':=(hb.block _ (UW h)).trans h
end
section
theorem DM{w:WR}{G t:Nat}{b c1 c2:WS}(h:w.heap[G]?=S (D #[b,c1,c2] t)):w.cell? ⟨G,0,U⟩=S b/\w.cell? ⟨G,1,U⟩=S c1/\w.cell? ⟨G,2,U⟩=S c2/\∀j,w.frozen? ⟨G,j,U⟩=W9:=⟨by simp[Xc,h],by simp[Xc,h],by simp[Xc,h],λj=>by simp[World.frozen?,h]⟩
def j5(w:WR)(B:Nat)(n:Int):Prop:=w.heap[B]?=S (D #[Z Y n] 2)
theorem j5.cell{w:WR}{B:Nat}{n:Int}(h:j5 w B n):w.cell? ⟨B,0,U⟩=S (Z Y n):=by
 unfold j5 at h;simp[Xc,h]
def yw(B:Nat):WS := .agg #[H ⟨#[]⟩,WW W9,.func (.func 242) #[] #[WV (S ⟨B,0,U⟩)]]
theorem zj(s:WU)(k:WS)(w:WR)(I:s.size<=4000)(n:Int)(L:Hid (Sp.number s.data.toList=S n)):WT prog 224 #[H s,k] w λe z=>∃B,K (E w)<=B/\j5 z B n/\e=WZ (WX #[yw B,WW W8])/\WQ w z:=by
 go_enter func224,ntmps224;go_wp2_with fail;refine(mT s _ I).mono ?_;rintro e b ⟨rfl,l⟩;rw[cS L];unfold m8;have A:=l.size;simp at A;have C:b.heap[K (E w)]?=S (D #[H ⟨#[]⟩,WW W9,.nilFunc] 275):=(l.block (K (E w)) (by simp)).trans Array.getElem?_push_size;have r:WQ w (b.alloc (D #[Z Y n] 2)):=(((T4 (K (E w)) w).alloc WN _).trans (l.mono (by simp))).alloc (by omega) _;have F:(b.alloc (D #[Z Y n] 2)).heap[K (E w)]?=_:=(((T4 (K (E b)) b).alloc WN (D #[Z Y n] 2)).block _ A).trans C;obtain⟨M,N,P,m⟩:=DM F;have R:=m 0;have T:=m 1;have V:=m 2;have G:j5 (b.alloc (D #[Z Y n] 2)) (K (E b)) n:=T9 b _;clear C F m;have u:K (E w)≠(K (E b)):=by omega
 have y:∀(W:WR) (j:Nat) (v:WS),j5 W (K (E b)) n->j5 (W.setCell ⟨K (E w),j,U⟩ v) (K (E b)) n:=λW j v h =>
  (Uj _ _ _ _ (λe=>u e.symm)).trans h
 have Q:=cT G;clear G;go_wp2;refine T8 (v := WX #[yw (K (E b)),WW W8]) ?_ O ⟨K (E b),by omega,y _ _ _ (y _ _ _ (y _ _ _ (cS Q))),O,((r.setCell WN _).setCell WN _).setCell WN _⟩;simp[results,results224,go_sem,yw,M,N,P]
def JP(k:Nat):WS := .agg #[H (yv k),WW (sD k),oH k]
def wC:WS := .agg #[H ⟨#[]⟩,WW W9,.nilFunc]
def SP(x:List UInt8)(w:WR)(e:Ending)(w':WR):Prop:=WQ w w'/\((∃k,k<25/\Sp.yC[k]! = x/\e=WZ (WX #[JP k,WW W8]))\/((∀k,k<25->Sp.yC[k]!≠x)/\e=WZ (WX #[wC,WW W9])))
theorem wP(s:WU)(b:Nat)(w:WR)(hs:s.size<=4000)(hW:ia b w)(hn:Hid (Sp.number s.data.toList=U)):WT prog 224 #[H s,J (S ⟨b,0,U⟩) 25 25] w (SP s.data.toList w):=by
 go_enter func224,ntmps224;go_wp2_with fail;refine(mT s _ hs).mono ?_;rintro e r ⟨rfl,l⟩;rw[cS hn];unfold m8;have X:=l.size;simp at X;have q:r.heap[K (E w)]?=S (D #[H ⟨#[]⟩,WW W9,.nilFunc] 275):=(l.block (K (E w)) (by simp)).trans Array.getElem?_push_size;have N:WQ w (r.alloc (D #[Z Y 0] 2)):=(((T4 (K (E w)) w).alloc WN _).trans (l.mono (by simp))).alloc (by omega) _;have P:(r.alloc (D #[Z Y 0] 2)).heap[K (E w)]?=_:=(((T4 (K (E r)) r).alloc WN (D #[Z Y 0] 2)).block _ X).trans q;have B:K (E w)<(r.alloc (D #[Z Y 0] 2)).heap.size:=by simp;omega
 go_wp2_with fail;generalize (r.alloc (D #[Z Y 0] 2))=t at *;clear l q
 go_loopw [20] (λi wr=>∃k:Nat,k<=25/\i=Z Y k/\WQ t wr/\Hid (∀j,j<k->Sp.yC[j]!≠s.data.toList)) (λi _=>25-(intOf i).toNat)
 case atStart=>exact⟨0,by omega,rfl,T4 _ _,λj p=>absurd p (by omega)⟩
 case round =>
  obtain⟨k,hk,rfl,C,o⟩:=hrel;have u:=N.trans (C.mono (by omega));have L:=(C.block _ B).trans P;by_cases F:k<25
  .obtain⟨x0,x1,x2⟩:=Cx (hW.below u) F;rw[V4 3 k] at x0 x1 x2;have aa:(0:Int)<=(k:Int):=UF _;have ab:(k:Int)<(25:Int):=by omega
   obtain⟨y,M⟩:∃y,Hid (y=yv k):=⟨_,rfl⟩
   obtain⟨G,HT⟩:∃G,Hid (G=sD k):=⟨_,rfl⟩
   obtain⟨I,HF⟩:∃I,Hid (Value.func (.func I) #[] #[]=oH k):=⟨_,rfl⟩
   rw[<-cS M] at x0;rw[<-cS HT] at x1;rw[<-cS HF] at x2;have z:K (E w)<K (E wr):=Ux B C.size;have h3:(wr.alloc (D #[H y,WW G,.func (.func I) #[] #[]] 275)).heap[K (E w)]?=_:=(((T4 (K (E wr)) wr).alloc WN (D #[H y,WW G,.func (.func I) #[] #[]] 275)).block _ z).trans L;have Q:=u.alloc (UT z) (D #[H y,WW G,.func (.func I) #[] #[]] 275);obtain⟨R,T,V,m⟩:=DM h3;have f0:=m 0;have f1:=m 1;have f2:=m 2;clear m L P h3;by_cases A:Sp.yC[k]! = s.data.toList
   .have W:=cT A;have g:(y.toList == s.toList)=W8:=by
     rw[cS M,FJ s];exact pq A
    clear A;clear z;go_wp2;refine T8 (v := WX #[JP k,WW W8]) ?_ O ⟨((Q.setCell WN _).setCell WN _).setCell WN _,Xa ⟨k,F,cS W,O⟩⟩;simp[results,results224,go_sem,JP,R,T,V,<-cS M,<-cS HT,<-cS HF]
   .have W:=cT A;have g:(y.toList == s.toList)=W9:=by
     rw[cS M,FJ s];exact pt A
    clear A;go_wp2;go_roundw
    case rel=>exact⟨k+1,by omega,by go_num,C.alloc C.size _,λj p=>if h:j=k then h ▸ cS W else cS o j (by omega)⟩
    case measure=>simp[intOf];omega
  .obtain rfl:k=25:=by omega
   obtain⟨R,T,V,m⟩:=DM L;have f0:=m 0;have f1:=m 1;have f2:=m 2;clear m L P;go_wp2;refine T8 (v := WX #[wC,WW W9]) ?_ O ⟨((u.setCell WN _).setCell WN _).setCell WN _,Xb ⟨cS o,O⟩⟩;simp[results,results224,go_sem,wC,R,T,V]
end
section
structure jW (w:WR) (M:Nat) (code:WS) (at' fuel h:Nat) (loops:WS):Prop where
 c0:w.cell? ⟨M,0,U⟩=S code
 c1:w.cell? ⟨M,1,U⟩=S (Z Y at')
 c2:w.cell? ⟨M,2,U⟩=S (Z Y fuel)
 sg:∀j,j<9->∃n:Int,w.cell? ⟨M,3+j,U⟩=S (Z Y n)
 st:∀j,j<16->∃n:Int,w.cell? ⟨M,12+j,U⟩=S (Z Y n)
 hh:w.cell? ⟨M,28,U⟩=S (Z Y h)
 ll:w.cell? ⟨M,29,U⟩=S loops
 dr:w.cell? ⟨M,30,U⟩=S (WW W8)
 fz:∀j,w.frozen? ⟨M,j,U⟩=W9
structure eB (M:Nat) (w w':WR):Prop where
 size:K (E w')=K (E w)
 block:∀b,b≠M->w'.heap[b]?=w.heap[b]?
 os:w'.os=w.os
 tape:w'.tape=w.tape
 output:w'.output=w.output
theorem eB.refl(M:Nat)(w:WR):eB M w w:=⟨O,λ_ _=>O,O,O,O⟩
variable {M:Nat}{w' w:WR}
theorem eB.trans{e:WR}(h:eB M w w')(j:eB M w' e): eB M w e:=⟨j.1.trans h.1,λb l=>(j.2 b l).trans (h.2 b l),j.os.trans h.os,j.tape.trans h.tape,j.output.trans h.output⟩
theorem eB.drew(h:eB M w w'): eB M w w'.drew:=⟨h.1,h.2,h.os,h.tape,h.output⟩
theorem eB.below(h:eB M w w'): Below M w w':=⟨h.os,h.tape,h.output,V5 h.size.symm,λb e=>h.block b (by omega)⟩
theorem eB.set(h:eB M w w')(j:Nat)(v:WS): eB M w (w'.setCell ⟨M,j,U⟩ v):=by
 refine⟨by rw[<-h.1];simp,λb e=>?_,h.os,h.tape,h.output⟩;rw[<-h.2 b e];exact Uj _ _ _ _ e
theorem cW{W:WR}{i j:Nat}{v:WS}(h:i≠j): (W.setCell ⟨M,i,U⟩ v).cell? ⟨M,j,U⟩=W.cell? ⟨M,j,U⟩:=UD W ⟨M,i,U⟩ ⟨M,j,U⟩ v (by intro e;injection e with _ e1;exact h e1)
variable {h fuel at':Nat}{loops code:WS}
theorem jW.drew(hd:jW w M code at' fuel h loops): jW w.drew M code at' fuel h loops:=⟨hd.c0,hd.c1,hd.c2,hd.sg,hd.st,hd.hh,hd.ll,hd.dr,hd.fz⟩
theorem jW.val(hd:jW w M code at' fuel h loops)(i:Nat)(hi:i<16)(v:Int): jW (w.setCell ⟨M,12+i,U⟩ (Z Y v)) M code at' fuel h loops:=by
 obtain⟨m,r,u,y,l,z,A,B,C⟩:=hd;refine⟨?_,?_,?_,λj b=>?_,λj b=>?_,?_,?_,?_,λj=>?_⟩
 .rw[cW (by omega)];exact m
 .rw[cW (by omega)];exact r
 .rw[cW (by omega)];exact u
 .rw[cW (by omega)];exact y j b
 .by_cases e:i=j
  .subst e;obtain⟨n,F⟩:=l i hi;exact⟨v,UN _ _ _ F⟩
  .rw[cW (by omega)];exact l j b
 .rw[cW (by omega)];exact z
 .rw[cW (by omega)];exact A
 .rw[cW (by omega)];exact B
 .rw[UK];exact C j
theorem jW.zZ(hd:jW w M code at' fuel h loops)(e:Nat): jW (w.setCell ⟨M,28,U⟩ (Z Y e)) M code at' fuel e loops:=by
 obtain⟨l,m,r,u,y,z,A,B,C⟩:=hd;refine⟨?_,?_,?_,λj b=>?_,λj b=>?_,?_,?_,?_,λj=>?_⟩
 .rw[cW (by omega)];exact l
 .rw[cW (by omega)];exact m
 .rw[cW (by omega)];exact r
 .rw[cW (by omega)];exact u j b
 .rw[cW (by omega)];exact y j b
 .exact UN _ _ _ z
 .rw[cW (by omega)];exact A
 .rw[cW (by omega)];exact B
 .rw[UK];exact C j
theorem ff(v:Int)(M at' fuel h:Nat)(code loops:WS)(w:WR)(hd:jW w M code at' fuel h loops)(b:h<16):WT prog 162 #[WV (S ⟨M,0,U⟩),Z Y v] w λe w'=>e=WZ (WX #[])/\jW w' M code at' fuel (h+1) loops/\eB M w w':=by
 have j:=hd.hh;obtain⟨x,l⟩:=hd.st h b;have m:=hd.fz (12+h);have r:=hd.fz 28;have u:(((h:Nat):Int) == 16)=W9:=Uh.2 (by omega);have y:(0:Int)<=(h:Int):=UF _;have z:(h:Int)<(16:Int):=by omega
 go_enter func162,ntmps162;go_wp2
 go_region
 go_wp2;exact Ub (Ua O _ _ _) O ⟨O,((hd.val h b v).zZ (h+1)).drew,(((eB.refl M w).set _ _).set _ _).drew⟩
theorem gP(v:Int)(M at' fuel h:Nat)(code loops:WS)(w:WR)(hd:jW w M code at' fuel h loops)(b:h=16)(u:TypeId)(p:WS)(he:w.cell? ⟨5,0,U⟩=S (.iface u p)):WT prog 162 #[WV (S ⟨M,0,U⟩),Z Y v] w λe w'=>e=.panicked [{ v := .iface u p,recovered:=false }]/\w'=w:=by
 have j:=hd.hh;subst b;go_enter func162,ntmps162;go_wp2;exact⟨O,O,O⟩
theorem nP(M at' fuel h:Nat)(code loops:WS)(w:WR)(hd:jW w M code at' fuel (h+1) loops)(b:h<16):WT prog 184 #[WV (S ⟨M,0,U⟩)] w λe w'=>e=WZ (Z Y 1)/\jW w' M code at' fuel h loops/\eB M w w':=by
 have j:=hd.hh;have l:=hd.fz 28;have m:=hd.dr;have r:((((h+1:Nat)):Int) == 0)=W9:=Uh.2 (by omega);have u:((h+1:Nat):Int)-1=(h:Int):=by omega
 go_enter func184,ntmps184;go_wp2;exact T8 (v := Z Y 1) (by simp[results,results184,go_sem]) O ⟨O,hd.zZ h,(eB.refl M w).set _ _⟩
theorem ma(M at' fuel:Nat)(code loops:WS)(w:WR)(hd:jW w M code at' fuel 0 loops)(u:TypeId)(p:WS)(he:w.cell? ⟨5,0,U⟩=S (.iface u p)):WT prog 184 #[WV (S ⟨M,0,U⟩)] w λe w'=>e=.panicked [{ v := .iface u p,recovered:=false }]/\w'=w:=by
 have b:=hd.hh;go_enter func184,ntmps184;go_wp2;exact⟨O,O,O⟩
theorem eB.cell(h:eB M w w'){b j:Nat}(hb:b≠M): w'.cell? ⟨b,j,U⟩=w.cell? ⟨b,j,U⟩:=by
 simp only[Xc,h.2 b hb]
theorem fN(M at' fuel h:Nat)(code loops:WS)(w:WR)(hd:jW w M code at' fuel (h+2) loops)(r:h+1<16):WT prog 172 #[WV (S ⟨M,0,U⟩)] w λe w'=>e=WZ (WX #[Z Y 1,Z Y 1])/\jW w' M code at' fuel h loops/\eB M w w':=by
 go_enter func172,ntmps172;go_wp2_with fail;refine(nP M at' fuel (h+1) code loops w hd r).mono ?_;rintro e u ⟨rfl,b,j⟩;go_wp2_with fail;refine(nP M at' fuel h code loops u b (by omega)).mono ?_;rintro e y ⟨rfl,l,m⟩;go_wp2;exact T8 (v := WX #[Z Y 1,Z Y 1]) (by simp[results,results172,go_sem]) O ⟨O,l,j.trans m⟩
theorem eP(M at' fuel h:Nat)(code loops:WS)(w:WR)(hd:jW w M code at' fuel h loops)(m:h<2)(u:TypeId)(p:WS)(r:5≠M)(he:w.cell? ⟨5,0,U⟩=S (.iface u p)):WT prog 172 #[WV (S ⟨M,0,U⟩)] w λe w'=>e=.panicked [{ v := .iface u p,recovered:=false }]/\eB M w w':=by
 match h,m with
 |0,_ =>
  go_enter func172,ntmps172;go_wp2_with fail;refine(ma M at' fuel code loops w hd u p he).mono ?_;rintro e l ⟨rfl,rfl⟩;go_wp2;exact⟨O,O,eB.refl _ _⟩
 |1,_ =>
  go_enter func172,ntmps172;go_wp2_with fail;refine(nP M at' fuel 0 code loops w hd (by omega)).mono ?_;rintro e l ⟨rfl,j,b⟩;go_wp2_with fail;refine(ma M at' fuel code loops l j u p ((b.cell r).trans he)).mono ?_;rintro e y ⟨rfl,rfl⟩;go_wp2;exact⟨O,O,b⟩
end
section
def Db(n m:Nat)(M r j h:Nat)(l b:WS)(u:TypeId)(p:WS)(w:WR)(e:Ending)(w':WR):Prop:=eB M w w'/\((n<=h/\h-n+m<=16/\e=WZ (WX #[])/\jW w' M l r j (h-n+m) b)\/(¬(n<=h/\h-n+m<=16)/\e=.panicked [{ v := .iface u p,recovered:=false }]))
structure uJ (M h:Nat) (u:TypeId) (p:WS) (w:WR):Prop where
 hM:5≠M
 he:w.cell? ⟨5,0,U⟩=S (.iface u p)
 hh:h<=16
def ly(F:Nat)(n m:Nat):Prop := ∀(M j e h:Nat) (code b:WS) (u:TypeId) (p:WS) (w:WR),jW w M code j e h b->uJ M h u p w->WT prog F #[WV (S ⟨M,0,U⟩)] w (Db n m M j e h code b u p w)
theorem do_1:ly 161 0 1:=by
 intro M m j h l b u p w hd z;obtain⟨n,C⟩:=hd.sg 0 (by omega);by_cases A:h<16
 .go_enter func161,ntmps161;go_wp2_with fail;refine(ff n M m j h l b w hd A).mono ?_;rintro e B ⟨rfl,r,y⟩;go_wp2;exact Ub (Ua O _ _ _) O ⟨y,Xa ⟨Ud _,by omega,O,r⟩⟩
 .go_enter func161,ntmps161;go_wp2_with fail;refine(gP n M m j h l b w hd (by have:=z.hh;omega) u p z.he).mono ?_;rintro e B ⟨rfl,rfl⟩;go_wp2;exact⟨O,eB.refl _ _,Xb ⟨by omega,O⟩⟩
theorem Td:ly 163 0 1:=by
 intro M m j h l b u p w hd z;obtain⟨n,C⟩:=hd.sg 7 (by omega);by_cases A:h<16
 .go_enter func163,ntmps163;go_wp2_with fail;refine(ff n M m j h l b w hd A).mono ?_;rintro e B ⟨rfl,r,y⟩;go_wp2;exact Ub (Ua O _ _ _) O ⟨y,Xa ⟨Ud _,by omega,O,r⟩⟩
 .go_enter func163,ntmps163;go_wp2_with fail;refine(gP n M m j h l b w hd (by have:=z.hh;omega) u p z.he).mono ?_;rintro e B ⟨rfl,rfl⟩;go_wp2;exact⟨O,eB.refl _ _,Xb ⟨by omega,O⟩⟩
theorem Tz:ly 164 0 1:=by
 intro M m j h l b u p w hd z;obtain⟨n,C⟩:=hd.sg 1 (by omega);by_cases A:h<16
 .go_enter func164,ntmps164;go_wp2_with fail;refine(ff n M m j h l b w hd A).mono ?_;rintro e B ⟨rfl,r,y⟩;go_wp2;exact Ub (Ua O _ _ _) O ⟨y,Xa ⟨Ud _,by omega,O,r⟩⟩
 .go_enter func164,ntmps164;go_wp2_with fail;refine(gP n M m j h l b w hd (by have:=z.hh;omega) u p z.he).mono ?_;rintro e B ⟨rfl,rfl⟩;go_wp2;exact⟨O,eB.refl _ _,Xb ⟨by omega,O⟩⟩
theorem Tm:ly 165 0 1:=by
 intro M m j h l b u p w hd z;obtain⟨n,C⟩:=hd.sg 2 (by omega);by_cases A:h<16
 .go_enter func165,ntmps165;go_wp2_with fail;refine(ff n M m j h l b w hd A).mono ?_;rintro e B ⟨rfl,r,y⟩;go_wp2;exact Ub (Ua O _ _ _) O ⟨y,Xa ⟨Ud _,by omega,O,r⟩⟩
 .go_enter func165,ntmps165;go_wp2_with fail;refine(gP n M m j h l b w hd (by have:=z.hh;omega) u p z.he).mono ?_;rintro e B ⟨rfl,rfl⟩;go_wp2;exact⟨O,eB.refl _ _,Xb ⟨by omega,O⟩⟩
theorem Tq:ly 166 0 1:=by
 intro M m j h l b u p w hd z;obtain⟨n,C⟩:=hd.sg 3 (by omega);by_cases A:h<16
 .go_enter func166,ntmps166;go_wp2_with fail;refine(ff n M m j h l b w hd A).mono ?_;rintro e B ⟨rfl,r,y⟩;go_wp2;exact Ub (Ua O _ _ _) O ⟨y,Xa ⟨Ud _,by omega,O,r⟩⟩
 .go_enter func166,ntmps166;go_wp2_with fail;refine(gP n M m j h l b w hd (by have:=z.hh;omega) u p z.he).mono ?_;rintro e B ⟨rfl,rfl⟩;go_wp2;exact⟨O,eB.refl _ _,Xb ⟨by omega,O⟩⟩
theorem S8:ly 167 0 1:=by
 intro M m j h l b u p w hd z;obtain⟨n,C⟩:=hd.sg 4 (by omega);by_cases A:h<16
 .go_enter func167,ntmps167;go_wp2_with fail;refine(ff n M m j h l b w hd A).mono ?_;rintro e B ⟨rfl,r,y⟩;go_wp2;exact Ub (Ua O _ _ _) O ⟨y,Xa ⟨Ud _,by omega,O,r⟩⟩
 .go_enter func167,ntmps167;go_wp2_with fail;refine(gP n M m j h l b w hd (by have:=z.hh;omega) u p z.he).mono ?_;rintro e B ⟨rfl,rfl⟩;go_wp2;exact⟨O,eB.refl _ _,Xb ⟨by omega,O⟩⟩
theorem Tk:ly 168 0 1:=by
 intro M m j h l b u p w hd z;obtain⟨n,C⟩:=hd.sg 5 (by omega);by_cases A:h<16
 .go_enter func168,ntmps168;go_wp2_with fail;refine(ff n M m j h l b w hd A).mono ?_;rintro e B ⟨rfl,r,y⟩;go_wp2;exact Ub (Ua O _ _ _) O ⟨y,Xa ⟨Ud _,by omega,O,r⟩⟩
 .go_enter func168,ntmps168;go_wp2_with fail;refine(gP n M m j h l b w hd (by have:=z.hh;omega) u p z.he).mono ?_;rintro e B ⟨rfl,rfl⟩;go_wp2;exact⟨O,eB.refl _ _,Xb ⟨by omega,O⟩⟩
theorem Tr:ly 169 0 1:=by
 intro M m j h l b u p w hd z;obtain⟨n,C⟩:=hd.sg 6 (by omega);by_cases A:h<16
 .go_enter func169,ntmps169;go_wp2_with fail;refine(ff n M m j h l b w hd A).mono ?_;rintro e B ⟨rfl,r,y⟩;go_wp2;exact Ub (Ua O _ _ _) O ⟨y,Xa ⟨Ud _,by omega,O,r⟩⟩
 .go_enter func169,ntmps169;go_wp2_with fail;refine(gP n M m j h l b w hd (by have:=z.hh;omega) u p z.he).mono ?_;rintro e B ⟨rfl,rfl⟩;go_wp2;exact⟨O,eB.refl _ _,Xb ⟨by omega,O⟩⟩
theorem Th:ly 170 0 1:=by
 intro M m j h l b u p w hd z;obtain⟨n,C⟩:=hd.sg 8 (by omega);by_cases A:h<16
 .go_enter func170,ntmps170;go_wp2_with fail;refine(ff n M m j h l b w hd A).mono ?_;rintro e B ⟨rfl,r,y⟩;go_wp2;exact Ub (Ua O _ _ _) O ⟨y,Xa ⟨Ud _,by omega,O,r⟩⟩
 .go_enter func170,ntmps170;go_wp2_with fail;refine(gP n M m j h l b w hd (by have:=z.hh;omega) u p z.he).mono ?_;rintro e B ⟨rfl,rfl⟩;go_wp2;exact⟨O,eB.refl _ _,Xb ⟨by omega,O⟩⟩
theorem Si:ly 171 2 1:=by
 intro M m j h l b u p w hd y;by_cases F:h<2
 .go_enter func171,ntmps171;go_wp2_with fail;refine(eP M m j h l b w hd F u p y.hM y.he).mono ?_;rintro e C ⟨rfl,r⟩;go_wp2;exact⟨O,r,Xb ⟨by omega,O⟩⟩
 .obtain⟨h,rfl⟩:∃g,h=g+2:=⟨h-2,by omega⟩
  have G:=y.hh;go_enter func171,ntmps171;go_wp2_with fail;refine(fN M m j h l b w hd (by omega)).mono ?_;rintro e C ⟨rfl,z,r⟩;go_wp2_with fail;refine(ff _ M m j h l b C z (by omega)).mono ?_;rintro e I ⟨rfl,A,B⟩;go_wp2;exact Ub (Ua O _ _ _) O ⟨r.trans B,Xa ⟨by omega,by omega,O,A⟩⟩
theorem R8:ly 173 2 1:=by
 intro M m j h l b u p w hd y;by_cases F:h<2
 .go_enter func173,ntmps173;go_wp2_with fail;refine(eP M m j h l b w hd F u p y.hM y.he).mono ?_;rintro e C ⟨rfl,r⟩;go_wp2;exact⟨O,r,Xb ⟨by omega,O⟩⟩
 .obtain⟨h,rfl⟩:∃g,h=g+2:=⟨h-2,by omega⟩
  have G:=y.hh;go_enter func173,ntmps173;go_wp2_with fail;refine(fN M m j h l b w hd (by omega)).mono ?_;rintro e C ⟨rfl,z,r⟩;go_wp2_with fail;refine(ff _ M m j h l b C z (by omega)).mono ?_;rintro e I ⟨rfl,A,B⟩;go_wp2;exact Ub (Ua O _ _ _) O ⟨r.trans B,Xa ⟨by omega,by omega,O,A⟩⟩
theorem Sk:ly 174 2 1:=by
 intro M m j h l b u p w hd y;by_cases F:h<2
 .go_enter func174,ntmps174;go_wp2_with fail;refine(eP M m j h l b w hd F u p y.hM y.he).mono ?_;rintro e C ⟨rfl,r⟩;go_wp2;exact⟨O,r,Xb ⟨by omega,O⟩⟩
 .obtain⟨h,rfl⟩:∃g,h=g+2:=⟨h-2,by omega⟩
  have G:=y.hh;go_enter func174,ntmps174;go_wp2_with fail;refine(fN M m j h l b w hd (by omega)).mono ?_;rintro e C ⟨rfl,z,r⟩;go_wp2_with fail;refine(ff _ M m j h l b C z (by omega)).mono ?_;rintro e I ⟨rfl,A,B⟩;go_wp2;exact Ub (Ua O _ _ _) O ⟨r.trans B,Xa ⟨by omega,by omega,O,A⟩⟩
theorem SZ:ly 181 2 1:=by
 intro M m j h l b u p w hd y;by_cases F:h<2
 .go_enter func181,ntmps181;go_wp2_with fail;refine(eP M m j h l b w hd F u p y.hM y.he).mono ?_;rintro e C ⟨rfl,r⟩;go_wp2;exact⟨O,r,Xb ⟨by omega,O⟩⟩
 .obtain⟨h,rfl⟩:∃g,h=g+2:=⟨h-2,by omega⟩
  have G:=y.hh;go_enter func181,ntmps181;go_wp2_with fail;refine(fN M m j h l b w hd (by omega)).mono ?_;rintro e C ⟨rfl,z,r⟩;go_wp2_with fail;refine(ff _ M m j h l b C z (by omega)).mono ?_;rintro e I ⟨rfl,A,B⟩;go_wp2;exact Ub (Ua O _ _ _) O ⟨r.trans B,Xa ⟨by omega,by omega,O,A⟩⟩
theorem Sz:ly 182 2 1:=by
 intro M m j h l b u p w hd y;by_cases F:h<2
 .go_enter func182,ntmps182;go_wp2_with fail;refine(eP M m j h l b w hd F u p y.hM y.he).mono ?_;rintro e C ⟨rfl,r⟩;go_wp2;exact⟨O,r,Xb ⟨by omega,O⟩⟩
 .obtain⟨h,rfl⟩:∃g,h=g+2:=⟨h-2,by omega⟩
  have G:=y.hh;go_enter func182,ntmps182;go_wp2_with fail;refine(fN M m j h l b w hd (by omega)).mono ?_;rintro e C ⟨rfl,z,r⟩;go_wp2_with fail;refine(ff _ M m j h l b C z (by omega)).mono ?_;rintro e I ⟨rfl,A,B⟩;go_wp2;exact Ub (Ua O _ _ _) O ⟨r.trans B,Xa ⟨by omega,by omega,O,A⟩⟩
end
section
theorem oe(M m j h:Nat)(l b:WS)(w:WR)(hd:jW w M l m j (h+2) b)(z:h+1<16):WT prog 176 #[WV (S ⟨M,0,U⟩)] w λe y=>e=WZ (WX #[Z Y 1,Z Y 1])/\jW y M l m j h b/\eB M w y:=by
 go_enter func176,ntmps176;go_wp2_with fail;refine(fN M m j h l b w hd z).mono ?_;rintro e A ⟨rfl,r,u⟩;go_wp2;exact T8 (v := WX #[Z Y 1,Z Y 1]) (by simp[results,results176,go_sem]) O ⟨O,r,u⟩
theorem mR(M m j h:Nat)(l b:WS)(w:WR)(hd:jW w M l m j h b)(y:h<2)(u:TypeId)(p:WS)(z:5≠M)(he:w.cell? ⟨5,0,U⟩=S (.iface u p)):WT prog 176 #[WV (S ⟨M,0,U⟩)] w λe A=>e=.panicked [{ v := .iface u p,recovered:=false }]/\eB M w A:=by
 go_enter func176,ntmps176;go_wp2_with fail;refine(eP M m j h l b w hd y u p z he).mono ?_;rintro e B ⟨rfl,r⟩;go_wp2;exact⟨O,O,r⟩
theorem tA(v:Bool)(M m j h:Nat)(l b:WS)(w:WR)(hd:jW w M l m j h b)(y:h<16):WT prog 179 #[WV (S ⟨M,0,U⟩),WW v] w λe z=>e=WZ (WX #[])/\jW z M l m j (h+1) b/\eB M w z:=by
 cases v with
 |true =>
  go_enter func179,ntmps179;go_wp2_with fail;refine(ff 1 M m j h l b w hd y).mono ?_;rintro e A ⟨rfl,r,u⟩;go_wp2;exact Ub (Ua O _ _ _) O ⟨O,r,u⟩
 |false =>
  go_enter func179,ntmps179;go_wp2_with fail;refine(ff 0 M m j h l b w hd y).mono ?_;rintro e A ⟨rfl,r,u⟩;go_wp2;exact Ub (Ua O _ _ _) O ⟨O,r,u⟩
theorem R9:ly 175 2 1:=by
 intro M m j h l b u p w hd y;by_cases F:h<2
 .go_enter func175,ntmps175;go_wp2_with fail;refine(mR M m j h l b w hd F u p y.hM y.he).mono ?_;rintro e C ⟨rfl,r⟩;go_wp2;exact⟨O,r,Xb ⟨by omega,O⟩⟩
 .obtain⟨h,rfl⟩:∃g,h=g+2:=⟨h-2,by omega⟩
  have G:=y.hh;go_enter func175,ntmps175;go_wp2_with fail;refine(oe M m j h l b w hd (by omega)).mono ?_;rintro e C ⟨rfl,z,r⟩;go_wp2_with fail;refine(ff _ M m j h l b C z (by omega)).mono ?_;rintro e I ⟨rfl,A,B⟩;go_wp2;exact Ub (Ua O _ _ _) O ⟨r.trans B,Xa ⟨by omega,by omega,O,A⟩⟩
theorem Sw:ly 177 2 1:=by
 intro M m j h l b u p w hd y;by_cases F:h<2
 .go_enter func177,ntmps177;go_wp2_with fail;refine(mR M m j h l b w hd F u p y.hM y.he).mono ?_;rintro e C ⟨rfl,r⟩;go_wp2;exact⟨O,r,Xb ⟨by omega,O⟩⟩
 .obtain⟨h,rfl⟩:∃g,h=g+2:=⟨h-2,by omega⟩
  have G:=y.hh;go_enter func177,ntmps177;go_wp2_with fail;refine(oe M m j h l b w hd (by omega)).mono ?_;rintro e C ⟨rfl,z,r⟩;go_wp2_with fail;refine(ff _ M m j h l b C z (by omega)).mono ?_;rintro e I ⟨rfl,A,B⟩;go_wp2;exact Ub (Ua O _ _ _) O ⟨r.trans B,Xa ⟨by omega,by omega,O,A⟩⟩
theorem Se:ly 178 2 1:=by
 intro M m j h l b u p w hd y;by_cases F:h<2
 .go_enter func178,ntmps178;go_wp2_with fail;refine(eP M m j h l b w hd F u p y.hM y.he).mono ?_;rintro e C ⟨rfl,r⟩;go_wp2;exact⟨O,r,Xb ⟨by omega,O⟩⟩
 .obtain⟨h,rfl⟩:∃g,h=g+2:=⟨h-2,by omega⟩
  have G:=y.hh;go_enter func178,ntmps178;go_wp2_with fail;refine(fN M m j h l b w hd (by omega)).mono ?_;rintro e C ⟨rfl,z,r⟩;go_wp2_with fail;refine(tA _ M m j h l b C z (by omega)).mono ?_;rintro e I ⟨rfl,A,B⟩;go_wp2;exact Ub (Ua O _ _ _) O ⟨r.trans B,Xa ⟨by omega,by omega,O,A⟩⟩
theorem Sq:ly 180 2 1:=by
 intro M m j h l b u p w hd y;by_cases F:h<2
 .go_enter func180,ntmps180;go_wp2_with fail;refine(eP M m j h l b w hd F u p y.hM y.he).mono ?_;rintro e C ⟨rfl,r⟩;go_wp2;exact⟨O,r,Xb ⟨by omega,O⟩⟩
 .obtain⟨h,rfl⟩:∃g,h=g+2:=⟨h-2,by omega⟩
  have G:=y.hh;go_enter func180,ntmps180;go_wp2_with fail;refine(fN M m j h l b w hd (by omega)).mono ?_;rintro e C ⟨rfl,z,r⟩;go_wp2_with fail;refine(tA _ M m j h l b C z (by omega)).mono ?_;rintro e I ⟨rfl,A,B⟩;go_wp2;exact Ub (Ua O _ _ _) O ⟨r.trans B,Xa ⟨by omega,by omega,O,A⟩⟩
theorem Rz:ly 185 1 0:=by
 intro M m j h l b u p w hd A;have r:=A.hh
 match h,hd,r with
 |0,hd,_ =>
  go_enter func185,ntmps185;go_wp2_with fail;refine(ma M m j l b w hd u p A.he).mono ?_;rintro e B ⟨rfl,rfl⟩;go_wp2;exact⟨O,eB.refl _ _,Xb ⟨by omega,O⟩⟩
 |h+1,hd,r =>
  go_enter func185,ntmps185;go_wp2_with fail;refine(nP M m j h l b w hd (by omega)).mono ?_;rintro e B ⟨rfl,y,z⟩;go_wp2;exact Ub (Ua O _ _ _) O ⟨z,Xa ⟨by omega,by omega,O,y⟩⟩
theorem RY:ly 186 2 2:=by
 intro M m j h l b u p w hd y;by_cases I:h<2
 .go_enter func186,ntmps186;go_wp2_with fail;refine(eP M m j h l b w hd I u p y.hM y.he).mono ?_;rintro e G ⟨rfl,r⟩;go_wp2;exact⟨O,r,Xb ⟨by omega,O⟩⟩
 .obtain⟨h,rfl⟩:∃g,h=g+2:=⟨h-2,by omega⟩
  have L:=y.hh;go_enter func186,ntmps186;go_wp2_with fail;refine(fN M m j h l b w hd (by omega)).mono ?_;rintro e G ⟨rfl,z,r⟩;go_wp2_with fail;refine(ff _ M m j h l b G z (by omega)).mono ?_;rintro e N ⟨rfl,A,B⟩;go_wp2_with fail;refine(ff _ M m j (h+1) l b N A (by omega)).mono ?_;rintro e w3 ⟨rfl,C,F⟩;go_wp2;exact Ub (Ua O _ _ _) O ⟨(r.trans B).trans F,Xa ⟨by omega,by omega,O,C⟩⟩
end
section
theorem RD:ly 183 1 2:=by
 intro M m j h l b u p w hd B;have z:=B.hh
 match h,hd,z with
 |0,hd,_ =>
  go_enter func183,ntmps183;go_wp2_with fail;refine(ma M m j l b w hd u p B.he).mono ?_;rintro e I ⟨rfl,rfl⟩;go_wp2;exact⟨O,eB.refl _ _,Xb ⟨by omega,O⟩⟩
 |h+1,hd,z =>
  go_enter func183,ntmps183;go_wp2_with fail;refine(nP M m j h l b w hd (by omega)).mono ?_;rintro e I ⟨rfl,C,r⟩;go_wp2_with fail;refine(ff _ M m j h l b I C (by omega)).mono ?_;rintro e L ⟨rfl,A,y⟩;by_cases N:h+1<16
  .go_wp2_with fail;refine(ff _ M m j (h+1) l b L A N).mono ?_;rintro e w3 ⟨rfl,F,G⟩;go_wp2;exact Ub (Ua O _ _ _) O ⟨(r.trans y).trans G,Xa ⟨by omega,by omega,O,F⟩⟩
  .go_wp2_with fail;refine(gP _ M m j (h+1) l b L A (by omega) u p (((r.trans y).cell B.hM).trans B.he)).mono ?_;rintro e w3 ⟨rfl,rfl⟩;go_wp2;exact⟨O,r.trans y,Xb ⟨by omega,O⟩⟩
theorem RW:ly 187 2 3:=by
 intro M m j h l b u p w hd y;by_cases P:h<2
 .go_enter func187,ntmps187;go_wp2_with fail;refine(eP M m j h l b w hd P u p y.hM y.he).mono ?_;rintro e N ⟨rfl,r⟩;go_wp2;exact⟨O,r,Xb ⟨by omega,O⟩⟩
 .obtain⟨h,rfl⟩:∃g,h=g+2:=⟨h-2,by omega⟩
  have Q:=y.hh;go_enter func187,ntmps187;go_wp2_with fail;refine(fN M m j h l b w hd (by omega)).mono ?_;rintro e N ⟨rfl,A,r⟩;go_wp2_with fail;refine(ff _ M m j h l b N A (by omega)).mono ?_;rintro e R ⟨rfl,B,C⟩;go_wp2_with fail;refine(ff _ M m j (h+1) l b R B (by omega)).mono ?_;rintro e w3 ⟨rfl,z,F⟩;have G:=(r.trans C).trans F;by_cases T:h+2<16
  .go_wp2_with fail;refine(ff _ M m j (h+2) l b w3 z T).mono ?_;rintro e V ⟨rfl,I,L⟩;go_wp2;exact Ub (Ua O _ _ _) O ⟨G.trans L,Xa ⟨by omega,by omega,O,I⟩⟩
  .go_wp2_with fail;refine(gP _ M m j (h+2) l b w3 z (by omega) u p ((G.cell y.hM).trans y.he)).mono ?_;rintro e V ⟨rfl,rfl⟩;go_wp2;exact⟨O,G,Xb ⟨by omega,O⟩⟩
theorem Da:ly 189 3 1:=by
 intro M m j h l b u p w hd z;by_cases N:h<2
 .go_enter func189,ntmps189;go_wp2_with fail;refine(eP M m j h l b w hd N u p z.hM z.he).mono ?_;rintro e B ⟨rfl,r⟩;go_wp2;exact⟨O,r,Xb ⟨by omega,O⟩⟩
 .obtain⟨h,rfl⟩:∃g,h=g+2:=⟨h-2,by omega⟩
  have A:=z.hh;go_enter func189,ntmps189;go_wp2_with fail;refine(fN M m j h l b w hd (by omega)).mono ?_;rintro e B ⟨rfl,y,r⟩
  match h,y,A with
  |0,y,_ =>
   go_wp2_with fail;refine(ma M m j l b B y u p ((r.cell z.hM).trans z.he)).mono ?_;rintro e L ⟨rfl,rfl⟩;go_wp2;exact⟨O,r,Xb ⟨by omega,O⟩⟩
  |h+1,y,A =>
   go_wp2_with fail;refine(nP M m j h l b B y (by omega)).mono ?_;rintro e L ⟨rfl,C,F⟩;go_wp2_with fail;refine(ff _ M m j h l b L C (by omega)).mono ?_;rintro e w3 ⟨rfl,G,I⟩;go_wp2;exact Ub (Ua O _ _ _) O ⟨(r.trans F).trans I,Xa ⟨by omega,by omega,O,G⟩⟩
theorem SF:ly 188 3 1:=by
 intro M m j h l b u p w hd z;go_enter func188,ntmps188;go_wp2_with fail;refine(Da M m j h l b u p w hd z).mono ?_;rintro e C ⟨y,⟨A,B,rfl,r⟩|⟨g,rfl⟩⟩
 .go_wp2;exact Ub (Ua O _ _ _) O ⟨y,Xa ⟨A,B,O,r⟩⟩
 .go_wp2;exact⟨O,y,Xb ⟨g,O⟩⟩
end
section
theorem P8(B:Nat)(n:Int)(M m j h:Nat)(l b:WS)(u:TypeId)(p:WS)(w:WR)(hd:jW w M l m j h b)(z:uJ M h u p w)(F:w.cell? ⟨B,0,U⟩=S (Z Y n)):WT prog 242 #[WV (S ⟨M,0,U⟩),WV (S ⟨B,0,U⟩)] w (Db 0 1 M m j h l b u p w):=by
 by_cases A:h<16
 .go_enter func242,ntmps242;go_wp2_with fail;refine(ff n M m j h l b w hd A).mono ?_;rintro e C ⟨rfl,r,y⟩;go_wp2;exact Ub (Ua O _ _ _) O ⟨y,Xa ⟨Ud _,by omega,O,r⟩⟩
 .go_enter func242,ntmps242;go_wp2_with fail;refine(gP n M m j h l b w hd (by have:=z.hh;omega) u p z.he).mono ?_;rintro e C ⟨rfl,rfl⟩;go_wp2;exact⟨O,eB.refl _ _,Xb ⟨by omega,O⟩⟩
end
section
theorem info_loop:(prog.info? 313).map (λi=>(i.zero,i.size,i.bytes))=S (S (.agg #[Z Y 0,Z Y 0]),2,16):=by kernel_rfl
variable {h fuel M at':Nat}{loops code:WS}{w:WR}
theorem jW.lt(hd:jW w M code at' fuel h loops): M<K (E w):=Ui w _ hd.c0
variable {w':WR}
theorem jW.far(hd:jW w M code at' fuel h loops)(b:∀j,w'.cell? ⟨M,j,U⟩=w.cell? ⟨M,j,U⟩)(l:∀j,w'.frozen? ⟨M,j,U⟩=w.frozen? ⟨M,j,U⟩): jW w' M code at' fuel h loops:=⟨(b 0).trans hd.c0,(b 1).trans hd.c1,(b 2).trans hd.c2,λj e=>by rw[b];exact hd.sg j e,λj e=>by rw[b];exact hd.st j e,(b 28).trans hd.hh,(b 29).trans hd.ll,(b 30).trans hd.dr,λj=>(l j).trans (hd.fz j)⟩
theorem jW.alloc(hd:jW w M code at' fuel h loops)(o:Obj): jW (w.alloc o) M code at' fuel h loops:=hd.far (λj=>((T4 (K (E w)) w).alloc WN o).cell (p:=⟨M,j,U⟩) hd.lt) (λj=>((T4 (K (E w)) w).alloc WN o).frozen (p:=⟨M,j,U⟩) hd.lt)
theorem jW.grown{b:Option Nat}(hd:jW w M code at' fuel h loops)(l:w.grownBy w' b)(e:S M≠b): jW w' M code at' fuel h loops:=hd.far (λj=>l.cell_far ⟨M,j,U⟩ hd.lt e) (λj=>l.frozen_far ⟨M,j,U⟩ hd.lt e)
theorem jW.RR(hd:jW w M code at' fuel h loops)(e:WS): jW (w.setCell ⟨M,29,U⟩ e) M code at' fuel h e:=by
 obtain⟨l,m,r,u,y,z,A,B,C⟩:=hd;refine⟨?_,?_,?_,λj b=>?_,λj b=>?_,?_,?_,?_,λj=>?_⟩
 .rw[cW (by omega)];exact l
 .rw[cW (by omega)];exact m
 .rw[cW (by omega)];exact r
 .rw[cW (by omega)];exact u j b
 .rw[cW (by omega)];exact y j b
 .rw[cW (by omega)];exact z
 .exact UN _ _ _ A
 .rw[cW (by omega)];exact B
 .rw[UK];exact C j
theorem eB.own(h:eB M w w'){e size n:Nat}{v:WS}{m:List WS}(u:w.ownsRow (M+1) e size v n m): w'.ownsRow (M+1) e size v n m:=by
 obtain⟨y,b⟩:=u;refine⟨y,?_⟩;rcases b with b|⟨g,j,l,z,A,B,r⟩
 .exact .inl b
 .exact .inr ⟨g,j,l,z,A,(h.2 g (by omega)).trans B,r⟩
theorem IK(M at' fuel h n:Nat)(code x:WS)(y:List WS)(w:WR)(hd:jW w M code at' fuel (h+1) x)(Q:h+1<=16)(p:n<=10000)(R:w.ownsRow (M+1) 313 2 x n y):WT prog 191 #[WV (S ⟨M,0,U⟩)] w λe w'=>e=WZ (WX #[])/\∃N,jW w' M code at' fuel h N/\w'.ownsRow (M+1) 313 2 N (n+1) (y++[Z Y 1,Z Y h])/\Below M w w':=by
 obtain⟨T,z,A,B,C⟩:=UB info_loop;go_enter func191,ntmps191;go_wp2_with fail;refine(nP M at' fuel h code x w hd (by omega)).mono ?_;rintro e r ⟨rfl,j,u⟩;have F:r.ownsRow (M+1) 313 2 x n y:=u.own R;have G:=j.lt;have o:=j.hh;have g:=j.ll;have e3:=j.fz 29;have l:S M≠x.ownBlock:=λe=>by have:=(F.lt M e.symm).1;omega
 go_wp2_with fail
 go_region_law ((refine step_append_lies _ (by rfl) _ _ _ (by rfl) (M+1) 313 T _ 2 16 underlying221 z A B C O (by omega) x _ _ (by rfl) ((F.alloc _).drew) ⟨K (E r),0,U⟩ 1 1 [Z Y 1,Z Y (h:Int)] (by rfl) (by rfl) (We (cs := #[Z Y 1,Z Y (h:Int)]) (t:=313) (fr:=(0,0)) (T9 r _)) (by simp[Value.oneCell']) (by omega) (by unfold maxLen;omega) (by omega) (by simp;omega) (K (E r)+1) (by simp) ?_;intro V W I m b X P;have q:I.cell? ⟨M,29,U⟩=S x:=(b.cell_far ⟨M,29,U⟩ (by simp;omega) l).trans ((j.alloc _).drew).ll;have s:I.frozen? ⟨M,29,U⟩=W9:=(b.frozen_far ⟨M,29,U⟩ (by simp;omega) l).trans (((j.alloc _).drew).fz 29)))
 all_goals
  have L:=o9 (((T4 M r).alloc (UT G) _).drew) ((j.alloc _).drew).lt ((F.alloc _).drew) b 29 (J (S ⟨V,0,U⟩) (n+1) W);exact Ub (Ua O _ _ _) O ⟨O,_,(((j.alloc _).drew).grown b l).RR _,((eB.refl M I).set _ _).own m,u.below.trans L⟩
end
section
theorem Dy(M l b:Nat)(j x:WS)(w:WR)(hd:jW w M j l b 0 x)(u:TypeId)(p:WS)(he:w.cell? ⟨5,0,U⟩=S (.iface u p)):WT prog 191 #[WV (S ⟨M,0,U⟩)] w λe m=>e=.panicked [{ v := .iface u p,recovered:=false }]/\m=w:=by
 go_enter func191,ntmps191;go_wp2_with fail;refine(ma M l b j x w hd u p he).mono ?_;rintro e r ⟨rfl,rfl⟩;go_wp2;exact⟨O,O,O⟩
theorem zS{w:WR}{B e size n g cap:Nat}{ys:List WS}(h:w.ownsRow B e size (J (S ⟨g,0,U⟩) (n+1) cap) (n+1) ys):w.ownsRow B e size (J (S ⟨g,0,U⟩) n cap) n (ys.take (n*size)):=by
 obtain⟨r,b⟩:=h;rcases b with ⟨b,_⟩|⟨G,m,j,u,y,z,I,A,C,F⟩
 .cases b
 .cases u;have l:n*size<=(n+1)*size:=Wq _ (by omega);refine⟨by rw[Vj,r];omega,.inr ⟨g,cap,j,O,y,z,by omega,A,C,?_⟩⟩;rw[<-F,Vx,V2 l]
theorem Pq(M m b h n g cap:Nat)(l:WS)(C:List WS)(w:WR)(hd:jW w M l m b h (J (S ⟨g,0,U⟩) (n+1) cap))(hn:n<=10000)(z:w.ownsRow (M+1) 313 2 (J (S ⟨g,0,U⟩) (n+1) cap) (n+1) (C++[Z Y 1,Z Y h]))(Q:C.length=n*2):WT prog 193 #[WV (S ⟨M,0,U⟩)] w λe y=>e=WZ (WX #[])/\jW y M l m b h (J (S ⟨g,0,U⟩) n cap)/\y.ownsRow (M+1) 313 2 (J (S ⟨g,0,U⟩) n cap) n C/\Below M w y:=by
 have q0:w.cell? ⟨g,n*2,U⟩=S (Z Y 1):=(z.cellAt (n*2) (by omega)).trans (by rw[Ul (by omega),Q];simp);have q1:w.cell? ⟨g,n*2+1,U⟩=S (Z Y h):=(z.cellAt (n*2+1) (by omega)).trans (by rw[Ul (by omega),Q];simp);have q2:=z.frozenAt (n*2);have F:M<g:=(z.lt g O).1;have V:M≠g:=by omega
 have W:g≠M:=by omega
 have R:n+1<=cap:=by
  rcases z.2 with ⟨X,_⟩|⟨g',T,q,t,hB,hg,r⟩
  .cases X
  .cases t;exact r.1
 have s:(n:Int)<=(cap:Int):=by omega
 have o:n<=cap:=by omega
 have e1:=hd.hh;have e2:=hd.ll;have e3:=hd.fz 29;have g0:((n+1:Nat):Int)-1=(n:Int):=by omega
 have g1:(0:Int)<=(n:Int):=UF _;have g2:(n:Int)<((n+1:Nat):Int):=by omega
 have g3:(((h:Nat):Int) != ((h:Nat):Int))=W9:=by simp
 have G:Hid (∀k,(λy=>jW y M l m b h (J (S ⟨g,0,U⟩) n cap)/\y.ownsRow (M+1) 313 2 (J (S ⟨g,0,U⟩) n cap) n C/\Below M w y) ((((w.drewN k).setCell ⟨g,n*2,U⟩ (Z Y 0)).setCell ⟨M,29,U⟩ (J (S ⟨g,0,U⟩) n cap)).drew)):=by
  intro k;have u:=below_drewN w k;have I:jW (w.drewN k) M l m b h (J (S ⟨g,0,U⟩) (n+1) cap):=hd.far (λj=>u.cell (p:=⟨M,j,U⟩) hd.lt) (λj=>u.frozen (p:=⟨M,j,U⟩) hd.lt);have L:=dd z u;have A:=L.stored (n*2) (Z Y 0);have N:=I.grown A.2 (by simp[Value.ownBlock];omega);have B:=zS A.1;rw[WI _ _ (by omega),List.take_left' (by omega)] at B;have P:=((u.mono (UT hd.lt)).setCell (p:=⟨g,n*2,U⟩) (UT F) (Z Y 0)).setCell (p:=⟨M,29,U⟩) WN (J (S ⟨g,0,U⟩) n cap);exact⟨(N.RR _).drew,(((eB.refl M _).set _ _).own B).drew,P.drew⟩
 go_enter func193,ntmps193;go_wp2_with fail
 go_quiet (fail)
 go_wp2_with fail
 go_quiet (fail)
 go_wp2
 go_region
 generalize nq=n2 at *;exact Ub (Ua O _ _ _) O ⟨O,(cS G _).1,(cS G _).2.1,(cS G _).2.2⟩
end
section
theorem M6(M l b h m n g cap:Nat)(j:WS)(r:List WS)(w:WR)(hd:jW w M j l b h (J (S ⟨g,0,U⟩) (n+1) cap))(B:n<=10000)(y:w.ownsRow (M+1) 313 2 (J (S ⟨g,0,U⟩) (n+1) cap) (n+1) (r++[Z Y 1,Z Y m]))(z:r.length=n*2)(C:h≠m)(u:TypeId)(p:WS)(he:w.cell? ⟨5,0,U⟩=S (.iface u p)):WT prog 193 #[WV (S ⟨M,0,U⟩)] w λe A=>e=.panicked [{ v := .iface u p,recovered:=false }]/\WQ w A:=by
 have F:w.cell? ⟨g,n*2+1,U⟩=S (Z Y m):=(y.cellAt (n*2+1) (by omega)).trans (by rw[Ul (by omega),z];simp);have G:=hd.hh;have I:=hd.ll;have L:((n+1:Nat):Int)-1=(n:Int):=by omega
 have N:(0:Int)<=(n:Int):=UF _;have P:(n:Int)<((n+1:Nat):Int):=by omega
 have Q:(((h:Nat):Int) != ((m:Nat):Int))=W8:=by rw[VH];omega
 go_enter func193,ntmps193;go_wp2_with fail
 go_quiet (fail)
 go_wp2_with fail
 go_quiet (fail)
 go_wp2;exact⟨O,O,below_drewN _ _⟩
theorem FE(R:Ending->WR->Prop)(M:Nat)(w:WR)(h:WT prog 191 #[WV (S ⟨M,0,U⟩)] w R)(j:∀e l,R e l->e=WZ (WX #[])\/∃v,e=.panicked [{ v:=v,recovered:=false }]):WT prog 190 #[WV (S ⟨M,0,U⟩)] w R:=by
 go_enter func190,ntmps190;go_wp2_with fail;refine h.mono ?_;intro e m b;rcases j e m b with rfl|⟨v,rfl⟩
 .go_wp2;exact Ub (Ua O _ _ _) O b
 .go_wp2;exact⟨O,b⟩
theorem EF(R:Ending->WR->Prop)(M:Nat)(w:WR)(h:WT prog 193 #[WV (S ⟨M,0,U⟩)] w R)(j:∀e l,R e l->e=WZ (WX #[])\/∃v,e=.panicked [{ v:=v,recovered:=false }]):WT prog 192 #[WV (S ⟨M,0,U⟩)] w R:=by
 go_enter func192,ntmps192;go_wp2_with fail;refine h.mono ?_;intro e m b;rcases j e m b with rfl|⟨v,rfl⟩
 .go_wp2;exact Ub (Ua O _ _ _) O b
 .go_wp2;exact⟨O,b⟩
end
end Go.Proofs.YtgkkdpegcieakaaGreatDoor
