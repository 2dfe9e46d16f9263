import Derived.Test.YtgkkdpegcieakaaGreatDoorCv04
set_option linter.all false
set_option maxRecDepth 100000
set_option maxHeartbeats 0
namespace Go.Proofs.YtgkkdpegcieakaaGreatDoor
open Go.Proofs.Tryz
open Value renaming int→Z,slice→J,string→H,pointer→V9,bool→Wa,tuple→Wb
open Ending renaming returned→Wd
open Obj renaming cells→D
open Option renaming none→U,some→S
open Bool renaming true→We,false→Wg
open Or renaming inl→Wh,inr→Wi
open _root_.Array renaming size→N
open World renaming cell?→Wj,heap→E
open IntKind renaming i64→Y
open Go renaming World→V5,Value→V6,Calls→V7
open Go.RowKit
def Sp.yP:List (List UInt8):=[[118,97,108,117,101],[111,108,100],[105,110],[103,111,116],[115,116,101,112],[105,100],[100,101,103],[97,108,108],[119,101,105,103,104,116],[43],[45],[42],[47],[37],[60],[61],[109,105,110],[109,97,120],[100,117,112],[100,114,111,112],[115,119,97,112],[111,118,101,114],[63],[91],[93]]
def Rz:List Nat:=[161,163,164,165,166,167,168,169,170,171,173,174,175,177,178,180,181,182,183,185,186,187,188,190,192]
def zg:Array V6 := #[H ⟨#[118,97,108,117,101]⟩,Wa Wg,.func (.func 161) #[] #[],
 H ⟨#[111,108,100]⟩,Wa Wg,.func (.func 163) #[] #[],
 H ⟨#[105,110]⟩,Wa Wg,.func (.func 164) #[] #[],
 H ⟨#[103,111,116]⟩,Wa Wg,.func (.func 165) #[] #[],
 H ⟨#[115,116,101,112]⟩,Wa Wg,.func (.func 166) #[] #[],
 H ⟨#[105,100]⟩,Wa Wg,.func (.func 167) #[] #[],
 H ⟨#[100,101,103]⟩,Wa Wg,.func (.func 168) #[] #[],
 H ⟨#[97,108,108]⟩,Wa Wg,.func (.func 169) #[] #[],
 H ⟨#[119,101,105,103,104,116]⟩,Wa We,.func (.func 170) #[] #[],
 H ⟨#[43]⟩,Wa Wg,.func (.func 171) #[] #[],
 H ⟨#[45]⟩,Wa Wg,.func (.func 173) #[] #[],
 H ⟨#[42]⟩,Wa Wg,.func (.func 174) #[] #[],
 H ⟨#[47]⟩,Wa Wg,.func (.func 175) #[] #[],
 H ⟨#[37]⟩,Wa Wg,.func (.func 177) #[] #[],
 H ⟨#[60]⟩,Wa Wg,.func (.func 178) #[] #[],
 H ⟨#[61]⟩,Wa Wg,.func (.func 180) #[] #[],
 H ⟨#[109,105,110]⟩,Wa Wg,.func (.func 181) #[] #[],
 H ⟨#[109,97,120]⟩,Wa Wg,.func (.func 182) #[] #[],
 H ⟨#[100,117,112]⟩,Wa Wg,.func (.func 183) #[] #[],
 H ⟨#[100,114,111,112]⟩,Wa Wg,.func (.func 185) #[] #[],
 H ⟨#[115,119,97,112]⟩,Wa Wg,.func (.func 186) #[] #[],
 H ⟨#[111,118,101,114]⟩,Wa Wg,.func (.func 187) #[] #[],
 H ⟨#[63]⟩,Wa Wg,.func (.func 188) #[] #[],
 H ⟨#[91]⟩,Wa Wg,.func (.func 190) #[] #[],
 H ⟨#[93]⟩,Wa Wg,.func (.func 192) #[] #[]]
def gY(b:Nat)(w:V5):Prop:=w.heap[b]?=S (D zg 275)
theorem GG(w:V5):V7 prog 109 #[] w λe b=>e=Wd (J (S ⟨N (E w),0,U⟩) 25 25)/\V4 w b/\gY (N (E w)) b:=by
 go_enter func109,ntmps109;go_wp2;exact Tj (v := J (S ⟨N (E w),0,U⟩) 25 25) (by simp[results,results109,go_sem]) O ⟨O,V3.alloc V2 _,Array.getElem?_push_size⟩
def zc(i:Nat):V8:=⟨⟨Sp.yP[i]!⟩⟩
def sq(i:Nat):Bool:=i == 8
def oB(i:Nat):V6 := .func (.func (Rz[i]!)) #[] #[]
theorem RC:(i:Nat)->i<25->zg[3*i]?=S (H (zc i))
 |0,_=>rfl
 |1,_=>rfl
 |2,_=>rfl
 |3,_=>rfl
 |4,_=>rfl
 |5,_=>rfl
 |6,_=>rfl
 |7,_=>rfl
 |8,_=>rfl
 |9,_=>rfl
 |10,_=>rfl
 |11,_=>rfl
 |12,_=>rfl
 |13,_=>rfl
 |14,_=>rfl
 |15,_=>rfl
 |16,_=>rfl
 |17,_=>rfl
 |18,_=>rfl
 |19,_=>rfl
 |20,_=>rfl
 |21,_=>rfl
 |22,_=>rfl
 |23,_=>rfl
 |24,_=>rfl
 |n+25,h=>absurd h (by omega)
theorem Sb:(i:Nat)->i<25->zg[3*i+1]?=S (Wa (sq i))
 |0,_=>rfl
 |1,_=>rfl
 |2,_=>rfl
 |3,_=>rfl
 |4,_=>rfl
 |5,_=>rfl
 |6,_=>rfl
 |7,_=>rfl
 |8,_=>rfl
 |9,_=>rfl
 |10,_=>rfl
 |11,_=>rfl
 |12,_=>rfl
 |13,_=>rfl
 |14,_=>rfl
 |15,_=>rfl
 |16,_=>rfl
 |17,_=>rfl
 |18,_=>rfl
 |19,_=>rfl
 |20,_=>rfl
 |21,_=>rfl
 |22,_=>rfl
 |23,_=>rfl
 |24,_=>rfl
 |n+25,h=>absurd h (by omega)
theorem Sa:(i:Nat)->i<25->zg[3*i+2]?=S (oB i)
 |0,_=>rfl
 |1,_=>rfl
 |2,_=>rfl
 |3,_=>rfl
 |4,_=>rfl
 |5,_=>rfl
 |6,_=>rfl
 |7,_=>rfl
 |8,_=>rfl
 |9,_=>rfl
 |10,_=>rfl
 |11,_=>rfl
 |12,_=>rfl
 |13,_=>rfl
 |14,_=>rfl
 |15,_=>rfl
 |16,_=>rfl
 |17,_=>rfl
 |18,_=>rfl
 |19,_=>rfl
 |20,_=>rfl
 |21,_=>rfl
 |22,_=>rfl
 |23,_=>rfl
 |24,_=>rfl
 |n+25,h=>absurd h (by omega)
theorem By{b:Nat}{w:V5}(h:gY b w){i:Nat}(hi:i<25):w.cell? ⟨b,3*i,U⟩=S (H (zc i))/\w.cell? ⟨b,3*i+1,U⟩=S (Wa (sq i))/\w.cell? ⟨b,3*i+2,U⟩=S (oB i):=by
 unfold gY at h;refine⟨?_,?_,?_⟩ <;> simp only[Wj,h]
 .exact RC i hi
 .exact Sb i hi
 .exact Sa i hi
theorem gY.below{b:Nat}{w w':V5}(h:gY b w)(hb:V4 w w'):gY b w':=(hb.block _ (Ud h)).trans h
theorem DB{w:V5}{G t:Nat}{b c1 c2:V6}(h:w.heap[G]?=S (D #[b,c1,c2] t)):w.cell? ⟨G,0,U⟩=S b/\w.cell? ⟨G,1,U⟩=S c1/\w.cell? ⟨G,2,U⟩=S c2/\∀j,w.frozen? ⟨G,j,U⟩=Wg:=⟨by simp[Wj,h],by simp[Wj,h],by simp[Wj,h],λj=>by simp[World.frozen?,h]⟩
def kd(w:V5)(B:Nat)(n:Int):Prop:=w.heap[B]?=S (D #[Z Y n] 2)
theorem kd.cell{w:V5}{B:Nat}{n:Int}(h:kd w B n):w.cell? ⟨B,0,U⟩=S (Z Y n):=by
 unfold kd at h;simp[Wj,h]
def zo(B:Nat):V6 := .agg #[H ⟨#[]⟩,Wa Wg,.func (.func 242) #[] #[V9 (S ⟨B,0,U⟩)]]
theorem yr(s:V8)(k:V6)(w:V5)(I:s.size<=4000)(n:Int)(K:Hid (Sp.number s.data.toList=S n)):V7 prog 224 #[H s,k] w λe z=>∃B,N (E w)<=B/\kd z B n/\e=Wd (Wb #[zo B,Wa We])/\V4 w z:=by
 go_enter func224,ntmps224;go_wp2_with fail;refine(mN s _ I).mono ?_;rintro e b ⟨rfl,l⟩;rw[cT K];unfold mU;have A:=l.size;simp at A;have C:b.heap[N (E w)]?=S (D #[H ⟨#[]⟩,Wa Wg,.nilFunc] 275):=(l.block (N (E w)) (by simp)).trans Array.getElem?_push_size;have r:V4 w (b.alloc (D #[Z Y n] 2)):=(((Th (N (E w)) w).alloc V2 _).trans (l.mono (by simp))).alloc (by omega) _;have F:(b.alloc (D #[Z Y n] 2)).heap[N (E w)]?=_:=(((Th (N (E b)) b).alloc V2 (D #[Z Y n] 2)).block _ A).trans C;obtain⟨L,M,P,m⟩:=DB F;have R:=m 0;have T:=m 1;have V:=m 2;have G:kd (b.alloc (D #[Z Y n] 2)) (N (E b)) n:=Tk b _;clear C F m;have u:N (E w)≠(N (E b)):=by omega
 have y:∀(W:V5) (j:Nat) (v:V6),kd W (N (E b)) n->kd (W.setCell ⟨N (E w),j,U⟩ v) (N (E b)) n:=λW j v h =>
  (Tv _ _ _ _ (λe=>u e.symm)).trans h
 have Q:=cU G;clear G;go_wp2;refine Tj (v := Wb #[zo (N (E b)),Wa We]) ?_ O ⟨N (E b),by omega,y _ _ _ (y _ _ _ (y _ _ _ (cT Q))),O,((r.setCell V2 _).setCell V2 _).setCell V2 _⟩;simp[results,results224,go_sem,zo,L,M,P]
def IA(k:Nat):V6 := .agg #[H (zc k),Wa (sq k),oB k]
def wD:V6 := .agg #[H ⟨#[]⟩,Wa Wg,.nilFunc]
def QK(x:List UInt8)(w:V5)(e:Ending)(w':V5):Prop:=V4 w w'/\((∃k,k<25/\Sp.yP[k]! = x/\e=Wd (Wb #[IA k,Wa We]))\/((∀k,k<25->Sp.yP[k]!≠x)/\e=Wd (Wb #[wD,Wa Wg])))
theorem wS(s:V8)(b:Nat)(w:V5)(hs:s.size<=4000)(hW:gY b w)(hn:Hid (Sp.number s.data.toList=U)):V7 prog 224 #[H s,J (S ⟨b,0,U⟩) 25 25] w (QK s.data.toList w):=by
 go_enter func224,ntmps224;go_wp2_with fail;refine(mN s _ hs).mono ?_;rintro e r ⟨rfl,l⟩;rw[cT hn];unfold mU;have X:=l.size;simp at X;have q:r.heap[N (E w)]?=S (D #[H ⟨#[]⟩,Wa Wg,.nilFunc] 275):=(l.block (N (E w)) (by simp)).trans Array.getElem?_push_size;have M:V4 w (r.alloc (D #[Z Y 0] 2)):=(((Th (N (E w)) w).alloc V2 _).trans (l.mono (by simp))).alloc (by omega) _;have P:(r.alloc (D #[Z Y 0] 2)).heap[N (E w)]?=_:=(((Th (N (E r)) r).alloc V2 (D #[Z Y 0] 2)).block _ X).trans q;have B:N (E w)<(r.alloc (D #[Z Y 0] 2)).heap.size:=by simp;omega
 go_wp2_with fail;generalize (r.alloc (D #[Z Y 0] 2))=t at *;clear l q
 go_loopw [20] (λi wr=>∃k:Nat,k<=25/\i=Z Y k/\V4 t wr/\Hid (∀j,j<k->Sp.yP[j]!≠s.data.toList)) (λi _=>25-(intOf i).toNat)
 case atStart=>exact⟨0,by omega,rfl,Th _ _,λj p=>absurd p (by omega)⟩
 case round =>
  obtain⟨k,hk,rfl,C,o⟩:=hrel;have u:=M.trans (C.mono (by omega));have K:=(C.block _ B).trans P;by_cases F:k<25
  .obtain⟨x0,x1,x2⟩:=By (hW.below u) F;rw[Vj 3 k] at x0 x1 x2;have aa:(0:Int)<=(k:Int):=TS _;have ab:(k:Int)<(25:Int):=by omega
   obtain⟨y,L⟩:∃y,Hid (y=zc k):=⟨_,rfl⟩
   obtain⟨G,HT⟩:∃G,Hid (G=sq k):=⟨_,rfl⟩
   obtain⟨I,HF⟩:∃I,Hid (Value.func (.func I) #[] #[]=oB k):=⟨_,rfl⟩
   rw[<-cT L] at x0;rw[<-cT HT] at x1;rw[<-cT HF] at x2;have z:N (E w)<N (E wr):=TI B C.size;have h3:(wr.alloc (D #[H y,Wa G,.func (.func I) #[] #[]] 275)).heap[N (E w)]?=_:=(((Th (N (E wr)) wr).alloc V2 (D #[H y,Wa G,.func (.func I) #[] #[]] 275)).block _ z).trans K;have Q:=u.alloc (Ub z) (D #[H y,Wa G,.func (.func I) #[] #[]] 275);obtain⟨R,T,V,m⟩:=DB h3;have f0:=m 0;have f1:=m 1;have f2:=m 2;clear m K P h3;by_cases A:Sp.yP[k]! = s.data.toList
   .have W:=cU A;have g:(y.toList == s.toList)=We:=by
     rw[cT L,E7 s];exact pF A
    clear A;clear z;go_wp2;refine Tj (v := Wb #[IA k,Wa We]) ?_ O ⟨((Q.setCell V2 _).setCell V2 _).setCell V2 _,Wh ⟨k,F,cT W,O⟩⟩;simp[results,results224,go_sem,IA,R,T,V,<-cT L,<-cT HT,<-cT HF]
   .have W:=cU A;have g:(y.toList == s.toList)=Wg:=by
     rw[cT L,E7 s];exact pJ A
    clear A;go_wp2;go_roundw
    case rel=>exact⟨k+1,by omega,by go_num,C.alloc C.size _,λj p=>if h:j=k then h ▸ cT W else cT o j (by omega)⟩
    case measure=>simp[intOf];omega
  .obtain rfl:k=25:=by omega
   obtain⟨R,T,V,m⟩:=DB K;have f0:=m 0;have f1:=m 1;have f2:=m 2;clear m K P;go_wp2;refine Tj (v := Wb #[wD,Wa Wg]) ?_ O ⟨((u.setCell V2 _).setCell V2 _).setCell V2 _,Wi ⟨cT o,O⟩⟩;simp[results,results224,go_sem,wD,R,T,V]
section
structure jX (w:V5) (M:Nat) (code:V6) (at' fuel h:Nat) (loops:V6):Prop where
 c0:w.cell? ⟨M,0,U⟩=S code
 c1:w.cell? ⟨M,1,U⟩=S (Z Y at')
 c2:w.cell? ⟨M,2,U⟩=S (Z Y fuel)
 sg:∀j,j<9->∃n:Int,w.cell? ⟨M,3+j,U⟩=S (Z Y n)
 st:∀j,j<16->∃n:Int,w.cell? ⟨M,12+j,U⟩=S (Z Y n)
 hh:w.cell? ⟨M,28,U⟩=S (Z Y h)
 ll:w.cell? ⟨M,29,U⟩=S loops
 dr:w.cell? ⟨M,30,U⟩=S (Wa We)
 fz:∀j,w.frozen? ⟨M,j,U⟩=Wg
structure eD (M:Nat) (w w':V5):Prop where
 size:N (E w')=N (E w)
 block:∀b,b≠M->w'.heap[b]?=w.heap[b]?
 os:w'.os=w.os
 tape:w'.tape=w.tape
 output:w'.output=w.output
theorem eD.refl(M:Nat)(w:V5):eD M w w:=⟨O,λ_ _=>O,O,O,O⟩
variable {M:Nat}{w w':V5}
theorem eD.trans{e:V5}(h:eD M w w')(j:eD M w' e): eD M w e:=⟨j.1.trans h.1,λb l=>(j.2 b l).trans (h.2 b l),j.os.trans h.os,j.tape.trans h.tape,j.output.trans h.output⟩
theorem eD.drew(h:eD M w w'): eD M w w'.drew:=⟨h.1,h.2,h.os,h.tape,h.output⟩
theorem eD.below(h:eD M w w'): Below M w w':=⟨h.os,h.tape,h.output,Vk h.size.symm,λb e=>h.block b (by omega)⟩
theorem eD.set(h:eD M w w')(j:Nat)(v:V6): eD M w (w'.setCell ⟨M,j,U⟩ v):=by
 refine⟨by rw[<-h.1];simp,λb e=>?_,h.os,h.tape,h.output⟩;rw[<-h.2 b e];exact Tv _ _ _ _ e
theorem cW{W:V5}{i j:Nat}{v:V6}(h:i≠j): (W.setCell ⟨M,i,U⟩ v).cell? ⟨M,j,U⟩=W.cell? ⟨M,j,U⟩:=TQ W ⟨M,i,U⟩ ⟨M,j,U⟩ v (by intro e;injection e with _ e1;exact h e1)
variable {fuel h at':Nat}{loops code:V6}
theorem jX.drew(hd:jX w M code at' fuel h loops): jX w.drew M code at' fuel h loops:=⟨hd.c0,hd.c1,hd.c2,hd.sg,hd.st,hd.hh,hd.ll,hd.dr,hd.fz⟩
theorem jX.val(hd:jX w M code at' fuel h loops)(i:Nat)(hi:i<16)(v:Int): jX (w.setCell ⟨M,12+i,U⟩ (Z Y v)) M code at' fuel h loops:=by
 obtain⟨m,r,u,y,l,z,A,B,C⟩:=hd;refine⟨?_,?_,?_,λj b=>?_,λj b=>?_,?_,?_,?_,λj=>?_⟩
 .rw[cW (by omega)];exact m
 .rw[cW (by omega)];exact r
 .rw[cW (by omega)];exact u
 .rw[cW (by omega)];exact y j b
 .by_cases e:i=j
  .subst e;obtain⟨n,F⟩:=l i hi;exact⟨v,T0 _ _ _ F⟩
  .rw[cW (by omega)];exact l j b
 .rw[cW (by omega)];exact z
 .rw[cW (by omega)];exact A
 .rw[cW (by omega)];exact B
 .rw[TX];exact C j
theorem jX.zW(hd:jX w M code at' fuel h loops)(e:Nat): jX (w.setCell ⟨M,28,U⟩ (Z Y e)) M code at' fuel e loops:=by
 obtain⟨l,m,r,u,y,z,A,B,C⟩:=hd;refine⟨?_,?_,?_,λj b=>?_,λj b=>?_,?_,?_,?_,λj=>?_⟩
 .rw[cW (by omega)];exact l
 .rw[cW (by omega)];exact m
 .rw[cW (by omega)];exact r
 .rw[cW (by omega)];exact u j b
 .rw[cW (by omega)];exact y j b
 .exact T0 _ _ _ z
 .rw[cW (by omega)];exact A
 .rw[cW (by omega)];exact B
 .rw[TX];exact C j
theorem ff(v:Int)(M at' fuel h:Nat)(code loops:V6)(w:V5)(hd:jX w M code at' fuel h loops)(b:h<16):V7 prog 162 #[V9 (S ⟨M,0,U⟩),Z Y v] w λe w'=>e=Wd (Wb #[])/\jX w' M code at' fuel (h+1) loops/\eD M w w':=by
 have j:=hd.hh;obtain⟨x,l⟩:=hd.st h b;have m:=hd.fz (12+h);have r:=hd.fz 28;have u:(((h:Nat):Int) == 16)=Wg:=Tt.2 (by omega);have y:(0:Int)<=(h:Int):=TS _;have z:(h:Int)<(16:Int):=by omega
 go_enter func162,ntmps162;go_wp2
 go_region
 go_wp2;exact Tm (Tl O _ _ _) O ⟨O,((hd.val h b v).zW (h+1)).drew,(((eD.refl M w).set _ _).set _ _).drew⟩
theorem gP(v:Int)(M at' fuel h:Nat)(code loops:V6)(w:V5)(hd:jX w M code at' fuel h loops)(b:h=16)(u:TypeId)(p:V6)(he:w.cell? ⟨5,0,U⟩=S (.iface u p)):V7 prog 162 #[V9 (S ⟨M,0,U⟩),Z Y v] w λe w'=>e=.panicked [{ v := .iface u p,recovered:=false }]/\w'=w:=by
 have j:=hd.hh;subst b;go_enter func162,ntmps162;go_wp2;exact⟨O,O,O⟩
theorem nT(M at' fuel h:Nat)(code loops:V6)(w:V5)(hd:jX w M code at' fuel (h+1) loops)(b:h<16):V7 prog 184 #[V9 (S ⟨M,0,U⟩)] w λe w'=>e=Wd (Z Y 1)/\jX w' M code at' fuel h loops/\eD M w w':=by
 have j:=hd.hh;have l:=hd.fz 28;have m:=hd.dr;have r:((((h+1:Nat)):Int) == 0)=Wg:=Tt.2 (by omega);have u:((h+1:Nat):Int)-1=(h:Int):=by omega
 go_enter func184,ntmps184;go_wp2;exact Tj (v := Z Y 1) (by simp[results,results184,go_sem]) O ⟨O,hd.zW h,(eD.refl M w).set _ _⟩
theorem mf(M at' fuel:Nat)(code loops:V6)(w:V5)(hd:jX w M code at' fuel 0 loops)(u:TypeId)(p:V6)(he:w.cell? ⟨5,0,U⟩=S (.iface u p)):V7 prog 184 #[V9 (S ⟨M,0,U⟩)] w λe w'=>e=.panicked [{ v := .iface u p,recovered:=false }]/\w'=w:=by
 have b:=hd.hh;go_enter func184,ntmps184;go_wp2;exact⟨O,O,O⟩
theorem eD.cell(h:eD M w w'){b j:Nat}(hb:b≠M): w'.cell? ⟨b,j,U⟩=w.cell? ⟨b,j,U⟩:=by
 simp only[Wj,h.2 b hb]
theorem fJ(M at' fuel h:Nat)(code loops:V6)(w:V5)(hd:jX w M code at' fuel (h+2) loops)(r:h+1<16):V7 prog 172 #[V9 (S ⟨M,0,U⟩)] w λe w'=>e=Wd (Wb #[Z Y 1,Z Y 1])/\jX w' M code at' fuel h loops/\eD M w w':=by
 go_enter func172,ntmps172;go_wp2_with fail;refine(nT M at' fuel (h+1) code loops w hd r).mono ?_;rintro e u ⟨rfl,b,j⟩;go_wp2_with fail;refine(nT M at' fuel h code loops u b (by omega)).mono ?_;rintro e y ⟨rfl,l,m⟩;go_wp2;exact Tj (v := Wb #[Z Y 1,Z Y 1]) (by simp[results,results172,go_sem]) O ⟨O,l,j.trans m⟩
theorem eP(M at' fuel h:Nat)(code loops:V6)(w:V5)(hd:jX w M code at' fuel h loops)(m:h<2)(u:TypeId)(p:V6)(r:5≠M)(he:w.cell? ⟨5,0,U⟩=S (.iface u p)):V7 prog 172 #[V9 (S ⟨M,0,U⟩)] w λe w'=>e=.panicked [{ v := .iface u p,recovered:=false }]/\eD M w w':=by
 match h,m with
 |0,_ =>
  go_enter func172,ntmps172;go_wp2_with fail;refine(mf M at' fuel code loops w hd u p he).mono ?_;rintro e l ⟨rfl,rfl⟩;go_wp2;exact⟨O,O,eD.refl _ _⟩
 |1,_ =>
  go_enter func172,ntmps172;go_wp2_with fail;refine(nT M at' fuel 0 code loops w hd (by omega)).mono ?_;rintro e l ⟨rfl,j,b⟩;go_wp2_with fail;refine(mf M at' fuel code loops l j u p ((b.cell r).trans he)).mono ?_;rintro e y ⟨rfl,rfl⟩;go_wp2;exact⟨O,O,b⟩
end
def CU(n m:Nat)(M r j h:Nat)(l b:V6)(u:TypeId)(p:V6)(w:V5)(e:Ending)(w':V5):Prop:=eD M w w'/\((n<=h/\h-n+m<=16/\e=Wd (Wb #[])/\jX w' M l r j (h-n+m) b)\/(¬(n<=h/\h-n+m<=16)/\e=.panicked [{ v := .iface u p,recovered:=false }]))
structure uH (M h:Nat) (u:TypeId) (p:V6) (w:V5):Prop where
 hM:5≠M
 he:w.cell? ⟨5,0,U⟩=S (.iface u p)
 hh:h<=16
def lA(F:Nat)(n m:Nat):Prop := ∀(M j e h:Nat) (code b:V6) (u:TypeId) (p:V6) (w:V5),jX w M code j e h b->uH M h u p w->V7 prog F #[V9 (S ⟨M,0,U⟩)] w (CU n m M j e h code b u p w)
theorem do_1:lA 161 0 1:=by
 intro M m j h l b u p w hd z;obtain⟨n,C⟩:=hd.sg 0 (by omega);by_cases A:h<16
 .go_enter func161,ntmps161;go_wp2_with fail;refine(ff n M m j h l b w hd A).mono ?_;rintro e B ⟨rfl,r,y⟩;go_wp2;exact Tm (Tl O _ _ _) O ⟨y,Wh ⟨Tp _,by omega,O,r⟩⟩
 .go_enter func161,ntmps161;go_wp2_with fail;refine(gP n M m j h l b w hd (by have:=z.hh;omega) u p z.he).mono ?_;rintro e B ⟨rfl,rfl⟩;go_wp2;exact⟨O,eD.refl _ _,Wi ⟨by omega,O⟩⟩
theorem Ss:lA 163 0 1:=by
 intro M m j h l b u p w hd z;obtain⟨n,C⟩:=hd.sg 7 (by omega);by_cases A:h<16
 .go_enter func163,ntmps163;go_wp2_with fail;refine(ff n M m j h l b w hd A).mono ?_;rintro e B ⟨rfl,r,y⟩;go_wp2;exact Tm (Tl O _ _ _) O ⟨y,Wh ⟨Tp _,by omega,O,r⟩⟩
 .go_enter func163,ntmps163;go_wp2_with fail;refine(gP n M m j h l b w hd (by have:=z.hh;omega) u p z.he).mono ?_;rintro e B ⟨rfl,rfl⟩;go_wp2;exact⟨O,eD.refl _ _,Wi ⟨by omega,O⟩⟩
theorem SM:lA 164 0 1:=by
 intro M m j h l b u p w hd z;obtain⟨n,C⟩:=hd.sg 1 (by omega);by_cases A:h<16
 .go_enter func164,ntmps164;go_wp2_with fail;refine(ff n M m j h l b w hd A).mono ?_;rintro e B ⟨rfl,r,y⟩;go_wp2;exact Tm (Tl O _ _ _) O ⟨y,Wh ⟨Tp _,by omega,O,r⟩⟩
 .go_enter func164,ntmps164;go_wp2_with fail;refine(gP n M m j h l b w hd (by have:=z.hh;omega) u p z.he).mono ?_;rintro e B ⟨rfl,rfl⟩;go_wp2;exact⟨O,eD.refl _ _,Wi ⟨by omega,O⟩⟩
theorem Sq:lA 165 0 1:=by
 intro M m j h l b u p w hd z;obtain⟨n,C⟩:=hd.sg 2 (by omega);by_cases A:h<16
 .go_enter func165,ntmps165;go_wp2_with fail;refine(ff n M m j h l b w hd A).mono ?_;rintro e B ⟨rfl,r,y⟩;go_wp2;exact Tm (Tl O _ _ _) O ⟨y,Wh ⟨Tp _,by omega,O,r⟩⟩
 .go_enter func165,ntmps165;go_wp2_with fail;refine(gP n M m j h l b w hd (by have:=z.hh;omega) u p z.he).mono ?_;rintro e B ⟨rfl,rfl⟩;go_wp2;exact⟨O,eD.refl _ _,Wi ⟨by omega,O⟩⟩
theorem SF:lA 166 0 1:=by
 intro M m j h l b u p w hd z;obtain⟨n,C⟩:=hd.sg 3 (by omega);by_cases A:h<16
 .go_enter func166,ntmps166;go_wp2_with fail;refine(ff n M m j h l b w hd A).mono ?_;rintro e B ⟨rfl,r,y⟩;go_wp2;exact Tm (Tl O _ _ _) O ⟨y,Wh ⟨Tp _,by omega,O,r⟩⟩
 .go_enter func166,ntmps166;go_wp2_with fail;refine(gP n M m j h l b w hd (by have:=z.hh;omega) u p z.he).mono ?_;rintro e B ⟨rfl,rfl⟩;go_wp2;exact⟨O,eD.refl _ _,Wi ⟨by omega,O⟩⟩
theorem SC:lA 167 0 1:=by
 intro M m j h l b u p w hd z;obtain⟨n,C⟩:=hd.sg 4 (by omega);by_cases A:h<16
 .go_enter func167,ntmps167;go_wp2_with fail;refine(ff n M m j h l b w hd A).mono ?_;rintro e B ⟨rfl,r,y⟩;go_wp2;exact Tm (Tl O _ _ _) O ⟨y,Wh ⟨Tp _,by omega,O,r⟩⟩
 .go_enter func167,ntmps167;go_wp2_with fail;refine(gP n M m j h l b w hd (by have:=z.hh;omega) u p z.he).mono ?_;rintro e B ⟨rfl,rfl⟩;go_wp2;exact⟨O,eD.refl _ _,Wi ⟨by omega,O⟩⟩
theorem SP:lA 168 0 1:=by
 intro M m j h l b u p w hd z;obtain⟨n,C⟩:=hd.sg 5 (by omega);by_cases A:h<16
 .go_enter func168,ntmps168;go_wp2_with fail;refine(ff n M m j h l b w hd A).mono ?_;rintro e B ⟨rfl,r,y⟩;go_wp2;exact Tm (Tl O _ _ _) O ⟨y,Wh ⟨Tp _,by omega,O,r⟩⟩
 .go_enter func168,ntmps168;go_wp2_with fail;refine(gP n M m j h l b w hd (by have:=z.hh;omega) u p z.he).mono ?_;rintro e B ⟨rfl,rfl⟩;go_wp2;exact⟨O,eD.refl _ _,Wi ⟨by omega,O⟩⟩
theorem Sx:lA 169 0 1:=by
 intro M m j h l b u p w hd z;obtain⟨n,C⟩:=hd.sg 6 (by omega);by_cases A:h<16
 .go_enter func169,ntmps169;go_wp2_with fail;refine(ff n M m j h l b w hd A).mono ?_;rintro e B ⟨rfl,r,y⟩;go_wp2;exact Tm (Tl O _ _ _) O ⟨y,Wh ⟨Tp _,by omega,O,r⟩⟩
 .go_enter func169,ntmps169;go_wp2_with fail;refine(gP n M m j h l b w hd (by have:=z.hh;omega) u p z.he).mono ?_;rintro e B ⟨rfl,rfl⟩;go_wp2;exact⟨O,eD.refl _ _,Wi ⟨by omega,O⟩⟩
theorem SD:lA 170 0 1:=by
 intro M m j h l b u p w hd z;obtain⟨n,C⟩:=hd.sg 8 (by omega);by_cases A:h<16
 .go_enter func170,ntmps170;go_wp2_with fail;refine(ff n M m j h l b w hd A).mono ?_;rintro e B ⟨rfl,r,y⟩;go_wp2;exact Tm (Tl O _ _ _) O ⟨y,Wh ⟨Tp _,by omega,O,r⟩⟩
 .go_enter func170,ntmps170;go_wp2_with fail;refine(gP n M m j h l b w hd (by have:=z.hh;omega) u p z.he).mono ?_;rintro e B ⟨rfl,rfl⟩;go_wp2;exact⟨O,eD.refl _ _,Wi ⟨by omega,O⟩⟩
theorem RW:lA 171 2 1:=by
 intro M m j h l b u p w hd y;by_cases F:h<2
 .go_enter func171,ntmps171;go_wp2_with fail;refine(eP M m j h l b w hd F u p y.hM y.he).mono ?_;rintro e C ⟨rfl,r⟩;go_wp2;exact⟨O,r,Wi ⟨by omega,O⟩⟩
 .obtain⟨h,rfl⟩:∃g,h=g+2:=⟨h-2,by omega⟩
  have G:=y.hh;go_enter func171,ntmps171;go_wp2_with fail;refine(fJ M m j h l b w hd (by omega)).mono ?_;rintro e C ⟨rfl,z,r⟩;go_wp2_with fail;refine(ff _ M m j h l b C z (by omega)).mono ?_;rintro e I ⟨rfl,A,B⟩;go_wp2;exact Tm (Tl O _ _ _) O ⟨r.trans B,Wh ⟨by omega,by omega,O,A⟩⟩
theorem QU:lA 173 2 1:=by
 intro M m j h l b u p w hd y;by_cases F:h<2
 .go_enter func173,ntmps173;go_wp2_with fail;refine(eP M m j h l b w hd F u p y.hM y.he).mono ?_;rintro e C ⟨rfl,r⟩;go_wp2;exact⟨O,r,Wi ⟨by omega,O⟩⟩
 .obtain⟨h,rfl⟩:∃g,h=g+2:=⟨h-2,by omega⟩
  have G:=y.hh;go_enter func173,ntmps173;go_wp2_with fail;refine(fJ M m j h l b w hd (by omega)).mono ?_;rintro e C ⟨rfl,z,r⟩;go_wp2_with fail;refine(ff _ M m j h l b C z (by omega)).mono ?_;rintro e I ⟨rfl,A,B⟩;go_wp2;exact Tm (Tl O _ _ _) O ⟨r.trans B,Wh ⟨by omega,by omega,O,A⟩⟩
theorem Re:lA 174 2 1:=by
 intro M m j h l b u p w hd y;by_cases F:h<2
 .go_enter func174,ntmps174;go_wp2_with fail;refine(eP M m j h l b w hd F u p y.hM y.he).mono ?_;rintro e C ⟨rfl,r⟩;go_wp2;exact⟨O,r,Wi ⟨by omega,O⟩⟩
 .obtain⟨h,rfl⟩:∃g,h=g+2:=⟨h-2,by omega⟩
  have G:=y.hh;go_enter func174,ntmps174;go_wp2_with fail;refine(fJ M m j h l b w hd (by omega)).mono ?_;rintro e C ⟨rfl,z,r⟩;go_wp2_with fail;refine(ff _ M m j h l b C z (by omega)).mono ?_;rintro e I ⟨rfl,A,B⟩;go_wp2;exact Tm (Tl O _ _ _) O ⟨r.trans B,Wh ⟨by omega,by omega,O,A⟩⟩
theorem RT:lA 181 2 1:=by
 intro M m j h l b u p w hd y;by_cases F:h<2
 .go_enter func181,ntmps181;go_wp2_with fail;refine(eP M m j h l b w hd F u p y.hM y.he).mono ?_;rintro e C ⟨rfl,r⟩;go_wp2;exact⟨O,r,Wi ⟨by omega,O⟩⟩
 .obtain⟨h,rfl⟩:∃g,h=g+2:=⟨h-2,by omega⟩
  have G:=y.hh;go_enter func181,ntmps181;go_wp2_with fail;refine(fJ M m j h l b w hd (by omega)).mono ?_;rintro e C ⟨rfl,z,r⟩;go_wp2_with fail;refine(ff _ M m j h l b C z (by omega)).mono ?_;rintro e I ⟨rfl,A,B⟩;go_wp2;exact Tm (Tl O _ _ _) O ⟨r.trans B,Wh ⟨by omega,by omega,O,A⟩⟩
theorem QT:lA 182 2 1:=by
 intro M m j h l b u p w hd y;by_cases F:h<2
 .go_enter func182,ntmps182;go_wp2_with fail;refine(eP M m j h l b w hd F u p y.hM y.he).mono ?_;rintro e C ⟨rfl,r⟩;go_wp2;exact⟨O,r,Wi ⟨by omega,O⟩⟩
 .obtain⟨h,rfl⟩:∃g,h=g+2:=⟨h-2,by omega⟩
  have G:=y.hh;go_enter func182,ntmps182;go_wp2_with fail;refine(fJ M m j h l b w hd (by omega)).mono ?_;rintro e C ⟨rfl,z,r⟩;go_wp2_with fail;refine(ff _ M m j h l b C z (by omega)).mono ?_;rintro e I ⟨rfl,A,B⟩;go_wp2;exact Tm (Tl O _ _ _) O ⟨r.trans B,Wh ⟨by omega,by omega,O,A⟩⟩
theorem oe(M m j h:Nat)(l b:V6)(w:V5)(hd:jX w M l m j (h+2) b)(z:h+1<16):V7 prog 176 #[V9 (S ⟨M,0,U⟩)] w λe y=>e=Wd (Wb #[Z Y 1,Z Y 1])/\jX y M l m j h b/\eD M w y:=by
 go_enter func176,ntmps176;go_wp2_with fail;refine(fJ M m j h l b w hd z).mono ?_;rintro e A ⟨rfl,r,u⟩;go_wp2;exact Tj (v := Wb #[Z Y 1,Z Y 1]) (by simp[results,results176,go_sem]) O ⟨O,r,u⟩
theorem mK(M m j h:Nat)(l b:V6)(w:V5)(hd:jX w M l m j h b)(y:h<2)(u:TypeId)(p:V6)(z:5≠M)(he:w.cell? ⟨5,0,U⟩=S (.iface u p)):V7 prog 176 #[V9 (S ⟨M,0,U⟩)] w λe A=>e=.panicked [{ v := .iface u p,recovered:=false }]/\eD M w A:=by
 go_enter func176,ntmps176;go_wp2_with fail;refine(eP M m j h l b w hd y u p z he).mono ?_;rintro e B ⟨rfl,r⟩;go_wp2;exact⟨O,O,r⟩
theorem tx(v:Bool)(M m j h:Nat)(l b:V6)(w:V5)(hd:jX w M l m j h b)(y:h<16):V7 prog 179 #[V9 (S ⟨M,0,U⟩),Wa v] w λe z=>e=Wd (Wb #[])/\jX z M l m j (h+1) b/\eD M w z:=by
 cases v with
 |true =>
  go_enter func179,ntmps179;go_wp2_with fail;refine(ff 1 M m j h l b w hd y).mono ?_;rintro e A ⟨rfl,r,u⟩;go_wp2;exact Tm (Tl O _ _ _) O ⟨O,r,u⟩
 |false =>
  go_enter func179,ntmps179;go_wp2_with fail;refine(ff 0 M m j h l b w hd y).mono ?_;rintro e A ⟨rfl,r,u⟩;go_wp2;exact Tm (Tl O _ _ _) O ⟨O,r,u⟩
theorem Rb:lA 175 2 1:=by
 intro M m j h l b u p w hd y;by_cases F:h<2
 .go_enter func175,ntmps175;go_wp2_with fail;refine(mK M m j h l b w hd F u p y.hM y.he).mono ?_;rintro e C ⟨rfl,r⟩;go_wp2;exact⟨O,r,Wi ⟨by omega,O⟩⟩
 .obtain⟨h,rfl⟩:∃g,h=g+2:=⟨h-2,by omega⟩
  have G:=y.hh;go_enter func175,ntmps175;go_wp2_with fail;refine(oe M m j h l b w hd (by omega)).mono ?_;rintro e C ⟨rfl,z,r⟩;go_wp2_with fail;refine(ff _ M m j h l b C z (by omega)).mono ?_;rintro e I ⟨rfl,A,B⟩;go_wp2;exact Tm (Tl O _ _ _) O ⟨r.trans B,Wh ⟨by omega,by omega,O,A⟩⟩
theorem QS:lA 177 2 1:=by
 intro M m j h l b u p w hd y;by_cases F:h<2
 .go_enter func177,ntmps177;go_wp2_with fail;refine(mK M m j h l b w hd F u p y.hM y.he).mono ?_;rintro e C ⟨rfl,r⟩;go_wp2;exact⟨O,r,Wi ⟨by omega,O⟩⟩
 .obtain⟨h,rfl⟩:∃g,h=g+2:=⟨h-2,by omega⟩
  have G:=y.hh;go_enter func177,ntmps177;go_wp2_with fail;refine(oe M m j h l b w hd (by omega)).mono ?_;rintro e C ⟨rfl,z,r⟩;go_wp2_with fail;refine(ff _ M m j h l b C z (by omega)).mono ?_;rintro e I ⟨rfl,A,B⟩;go_wp2;exact Tm (Tl O _ _ _) O ⟨r.trans B,Wh ⟨by omega,by omega,O,A⟩⟩
theorem QA:lA 178 2 1:=by
 intro M m j h l b u p w hd y;by_cases F:h<2
 .go_enter func178,ntmps178;go_wp2_with fail;refine(eP M m j h l b w hd F u p y.hM y.he).mono ?_;rintro e C ⟨rfl,r⟩;go_wp2;exact⟨O,r,Wi ⟨by omega,O⟩⟩
 .obtain⟨h,rfl⟩:∃g,h=g+2:=⟨h-2,by omega⟩
  have G:=y.hh;go_enter func178,ntmps178;go_wp2_with fail;refine(fJ M m j h l b w hd (by omega)).mono ?_;rintro e C ⟨rfl,z,r⟩;go_wp2_with fail;refine(tx _ M m j h l b C z (by omega)).mono ?_;rintro e I ⟨rfl,A,B⟩;go_wp2;exact Tm (Tl O _ _ _) O ⟨r.trans B,Wh ⟨by omega,by omega,O,A⟩⟩
theorem QI:lA 180 2 1:=by
 intro M m j h l b u p w hd y;by_cases F:h<2
 .go_enter func180,ntmps180;go_wp2_with fail;refine(eP M m j h l b w hd F u p y.hM y.he).mono ?_;rintro e C ⟨rfl,r⟩;go_wp2;exact⟨O,r,Wi ⟨by omega,O⟩⟩
 .obtain⟨h,rfl⟩:∃g,h=g+2:=⟨h-2,by omega⟩
  have G:=y.hh;go_enter func180,ntmps180;go_wp2_with fail;refine(fJ M m j h l b w hd (by omega)).mono ?_;rintro e C ⟨rfl,z,r⟩;go_wp2_with fail;refine(tx _ M m j h l b C z (by omega)).mono ?_;rintro e I ⟨rfl,A,B⟩;go_wp2;exact Tm (Tl O _ _ _) O ⟨r.trans B,Wh ⟨by omega,by omega,O,A⟩⟩
theorem RR:lA 185 1 0:=by
 intro M m j h l b u p w hd A;have r:=A.hh
 match h,hd,r with
 |0,hd,_ =>
  go_enter func185,ntmps185;go_wp2_with fail;refine(mf M m j l b w hd u p A.he).mono ?_;rintro e B ⟨rfl,rfl⟩;go_wp2;exact⟨O,eD.refl _ _,Wi ⟨by omega,O⟩⟩
 |h+1,hd,r =>
  go_enter func185,ntmps185;go_wp2_with fail;refine(nT M m j h l b w hd (by omega)).mono ?_;rintro e B ⟨rfl,y,z⟩;go_wp2;exact Tm (Tl O _ _ _) O ⟨z,Wh ⟨by omega,by omega,O,y⟩⟩
theorem QC:lA 186 2 2:=by
 intro M m j h l b u p w hd y;by_cases I:h<2
 .go_enter func186,ntmps186;go_wp2_with fail;refine(eP M m j h l b w hd I u p y.hM y.he).mono ?_;rintro e G ⟨rfl,r⟩;go_wp2;exact⟨O,r,Wi ⟨by omega,O⟩⟩
 .obtain⟨h,rfl⟩:∃g,h=g+2:=⟨h-2,by omega⟩
  have K:=y.hh;go_enter func186,ntmps186;go_wp2_with fail;refine(fJ M m j h l b w hd (by omega)).mono ?_;rintro e G ⟨rfl,z,r⟩;go_wp2_with fail;refine(ff _ M m j h l b G z (by omega)).mono ?_;rintro e L ⟨rfl,A,B⟩;go_wp2_with fail;refine(ff _ M m j (h+1) l b L A (by omega)).mono ?_;rintro e w3 ⟨rfl,C,F⟩;go_wp2;exact Tm (Tl O _ _ _) O ⟨(r.trans B).trans F,Wh ⟨by omega,by omega,O,C⟩⟩
theorem RA:lA 183 1 2:=by
 intro M m j h l b u p w hd B;have z:=B.hh
 match h,hd,z with
 |0,hd,_ =>
  go_enter func183,ntmps183;go_wp2_with fail;refine(mf M m j l b w hd u p B.he).mono ?_;rintro e I ⟨rfl,rfl⟩;go_wp2;exact⟨O,eD.refl _ _,Wi ⟨by omega,O⟩⟩
 |h+1,hd,z =>
  go_enter func183,ntmps183;go_wp2_with fail;refine(nT M m j h l b w hd (by omega)).mono ?_;rintro e I ⟨rfl,C,r⟩;go_wp2_with fail;refine(ff _ M m j h l b I C (by omega)).mono ?_;rintro e K ⟨rfl,A,y⟩;by_cases L:h+1<16
  .go_wp2_with fail;refine(ff _ M m j (h+1) l b K A L).mono ?_;rintro e w3 ⟨rfl,F,G⟩;go_wp2;exact Tm (Tl O _ _ _) O ⟨(r.trans y).trans G,Wh ⟨by omega,by omega,O,F⟩⟩
  .go_wp2_with fail;refine(gP _ M m j (h+1) l b K A (by omega) u p (((r.trans y).cell B.hM).trans B.he)).mono ?_;rintro e w3 ⟨rfl,rfl⟩;go_wp2;exact⟨O,r.trans y,Wi ⟨by omega,O⟩⟩
theorem RI:lA 187 2 3:=by
 intro M m j h l b u p w hd y;by_cases P:h<2
 .go_enter func187,ntmps187;go_wp2_with fail;refine(eP M m j h l b w hd P u p y.hM y.he).mono ?_;rintro e L ⟨rfl,r⟩;go_wp2;exact⟨O,r,Wi ⟨by omega,O⟩⟩
 .obtain⟨h,rfl⟩:∃g,h=g+2:=⟨h-2,by omega⟩
  have Q:=y.hh;go_enter func187,ntmps187;go_wp2_with fail;refine(fJ M m j h l b w hd (by omega)).mono ?_;rintro e L ⟨rfl,A,r⟩;go_wp2_with fail;refine(ff _ M m j h l b L A (by omega)).mono ?_;rintro e R ⟨rfl,B,C⟩;go_wp2_with fail;refine(ff _ M m j (h+1) l b R B (by omega)).mono ?_;rintro e w3 ⟨rfl,z,F⟩;have G:=(r.trans C).trans F;by_cases T:h+2<16
  .go_wp2_with fail;refine(ff _ M m j (h+2) l b w3 z T).mono ?_;rintro e V ⟨rfl,I,K⟩;go_wp2;exact Tm (Tl O _ _ _) O ⟨G.trans K,Wh ⟨by omega,by omega,O,I⟩⟩
  .go_wp2_with fail;refine(gP _ M m j (h+2) l b w3 z (by omega) u p ((G.cell y.hM).trans y.he)).mono ?_;rintro e V ⟨rfl,rfl⟩;go_wp2;exact⟨O,G,Wi ⟨by omega,O⟩⟩
theorem DI:lA 189 3 1:=by
 intro M m j h l b u p w hd z;by_cases L:h<2
 .go_enter func189,ntmps189;go_wp2_with fail;refine(eP M m j h l b w hd L u p z.hM z.he).mono ?_;rintro e B ⟨rfl,r⟩;go_wp2;exact⟨O,r,Wi ⟨by omega,O⟩⟩
 .obtain⟨h,rfl⟩:∃g,h=g+2:=⟨h-2,by omega⟩
  have A:=z.hh;go_enter func189,ntmps189;go_wp2_with fail;refine(fJ M m j h l b w hd (by omega)).mono ?_;rintro e B ⟨rfl,y,r⟩
  match h,y,A with
  |0,y,_ =>
   go_wp2_with fail;refine(mf M m j l b B y u p ((r.cell z.hM).trans z.he)).mono ?_;rintro e K ⟨rfl,rfl⟩;go_wp2;exact⟨O,r,Wi ⟨by omega,O⟩⟩
  |h+1,y,A =>
   go_wp2_with fail;refine(nT M m j h l b B y (by omega)).mono ?_;rintro e K ⟨rfl,C,F⟩;go_wp2_with fail;refine(ff _ M m j h l b K C (by omega)).mono ?_;rintro e w3 ⟨rfl,G,I⟩;go_wp2;exact Tm (Tl O _ _ _) O ⟨(r.trans F).trans I,Wh ⟨by omega,by omega,O,G⟩⟩
theorem RU:lA 188 3 1:=by
 intro M m j h l b u p w hd z;go_enter func188,ntmps188;go_wp2_with fail;refine(DI M m j h l b u p w hd z).mono ?_;rintro e C ⟨y,⟨A,B,rfl,r⟩|⟨g,rfl⟩⟩
 .go_wp2;exact Tm (Tl O _ _ _) O ⟨y,Wh ⟨A,B,O,r⟩⟩
 .go_wp2;exact⟨O,y,Wi ⟨g,O⟩⟩
theorem On(B:Nat)(n:Int)(M m j h:Nat)(l b:V6)(u:TypeId)(p:V6)(w:V5)(hd:jX w M l m j h b)(z:uH M h u p w)(F:w.cell? ⟨B,0,U⟩=S (Z Y n)):V7 prog 242 #[V9 (S ⟨M,0,U⟩),V9 (S ⟨B,0,U⟩)] w (CU 0 1 M m j h l b u p w):=by
 by_cases A:h<16
 .go_enter func242,ntmps242;go_wp2_with fail;refine(ff n M m j h l b w hd A).mono ?_;rintro e C ⟨rfl,r,y⟩;go_wp2;exact Tm (Tl O _ _ _) O ⟨y,Wh ⟨Tp _,by omega,O,r⟩⟩
 .go_enter func242,ntmps242;go_wp2_with fail;refine(gP n M m j h l b w hd (by have:=z.hh;omega) u p z.he).mono ?_;rintro e C ⟨rfl,rfl⟩;go_wp2;exact⟨O,eD.refl _ _,Wi ⟨by omega,O⟩⟩
section
theorem info_loop:(prog.info? 313).map (λi=>(i.zero,i.size,i.bytes))=S (S (.agg #[Z Y 0,Z Y 0]),2,16):=by kernel_rfl
variable {M fuel h at':Nat}{w:V5}{loops code:V6}
theorem jX.lt(hd:jX w M code at' fuel h loops): M<N (E w):=Tu w _ hd.c0
variable {w':V5}
theorem jX.far(hd:jX w M code at' fuel h loops)(b:∀j,w'.cell? ⟨M,j,U⟩=w.cell? ⟨M,j,U⟩)(l:∀j,w'.frozen? ⟨M,j,U⟩=w.frozen? ⟨M,j,U⟩): jX w' M code at' fuel h loops:=⟨(b 0).trans hd.c0,(b 1).trans hd.c1,(b 2).trans hd.c2,λj e=>by rw[b];exact hd.sg j e,λj e=>by rw[b];exact hd.st j e,(b 28).trans hd.hh,(b 29).trans hd.ll,(b 30).trans hd.dr,λj=>(l j).trans (hd.fz j)⟩
theorem jX.alloc(hd:jX w M code at' fuel h loops)(o:Obj): jX (w.alloc o) M code at' fuel h loops:=hd.far (λj=>((Th (N (E w)) w).alloc V2 o).cell (p:=⟨M,j,U⟩) hd.lt) (λj=>((Th (N (E w)) w).alloc V2 o).frozen (p:=⟨M,j,U⟩) hd.lt)
theorem jX.grown{b:Option Nat}(hd:jX w M code at' fuel h loops)(l:w.grownBy w' b)(e:S M≠b): jX w' M code at' fuel h loops:=hd.far (λj=>l.cell_far ⟨M,j,U⟩ hd.lt e) (λj=>l.frozen_far ⟨M,j,U⟩ hd.lt e)
theorem jX.QM(hd:jX w M code at' fuel h loops)(e:V6): jX (w.setCell ⟨M,29,U⟩ e) M code at' fuel h e:=by
 obtain⟨l,m,r,u,y,z,A,B,C⟩:=hd;refine⟨?_,?_,?_,λj b=>?_,λj b=>?_,?_,?_,?_,λj=>?_⟩
 .rw[cW (by omega)];exact l
 .rw[cW (by omega)];exact m
 .rw[cW (by omega)];exact r
 .rw[cW (by omega)];exact u j b
 .rw[cW (by omega)];exact y j b
 .rw[cW (by omega)];exact z
 .exact T0 _ _ _ A
 .rw[cW (by omega)];exact B
 .rw[TX];exact C j
theorem eD.own(h:eD M w w'){e size n:Nat}{v:V6}{m:List V6}(u:w.ownsRow (M+1) e size v n m): w'.ownsRow (M+1) e size v n m:=by
 obtain⟨y,b⟩:=u;refine⟨y,?_⟩;rcases b with b|⟨g,j,l,z,A,B,r⟩
 .exact .inl b
 .exact .inr ⟨g,j,l,z,A,(h.2 g (by omega)).trans B,r⟩
theorem IY(M at' fuel h n:Nat)(code x:V6)(y:List V6)(w:V5)(hd:jX w M code at' fuel (h+1) x)(Q:h+1<=16)(p:n<=10000)(R:w.ownsRow (M+1) 313 2 x n y):V7 prog 191 #[V9 (S ⟨M,0,U⟩)] w λe w'=>e=Wd (Wb #[])/\∃L,jX w' M code at' fuel h L/\w'.ownsRow (M+1) 313 2 L (n+1) (y++[Z Y 1,Z Y h])/\Below M w w':=by
 obtain⟨T,z,A,B,C⟩:=TN info_loop;go_enter func191,ntmps191;go_wp2_with fail;refine(nT M at' fuel h code x w hd (by omega)).mono ?_;rintro e r ⟨rfl,j,u⟩;have F:r.ownsRow (M+1) 313 2 x n y:=u.own R;have G:=j.lt;have o:=j.hh;have g:=j.ll;have e3:=j.fz 29;have l:S M≠x.ownBlock:=λe=>by have:=(F.lt M e.symm).1;omega
 go_wp2_with fail
 go_region_law ((refine step_append_lies _ (by rfl) _ _ _ (by rfl) (M+1) 313 T _ 2 16 underlying221 z A B C O (by omega) x _ _ (by rfl) ((F.alloc _).drew) ⟨N (E r),0,U⟩ 1 1 [Z Y 1,Z Y (h:Int)] (by rfl) (by rfl) (Vv (cs := #[Z Y 1,Z Y (h:Int)]) (t:=313) (fr:=(0,0)) (Tk r _)) (by simp[Value.oneCell']) (by omega) (by unfold maxLen;omega) (by omega) (by simp;omega) (N (E r)+1) (by simp) ?_;intro V W I m b X P;have q:I.cell? ⟨M,29,U⟩=S x:=(b.cell_far ⟨M,29,U⟩ (by simp;omega) l).trans ((j.alloc _).drew).ll;have s:I.frozen? ⟨M,29,U⟩=Wg:=(b.frozen_far ⟨M,29,U⟩ (by simp;omega) l).trans (((j.alloc _).drew).fz 29)))
 all_goals
  have K:=py (((Th M r).alloc (Ub G) _).drew) ((j.alloc _).drew).lt ((F.alloc _).drew) b 29 (J (S ⟨V,0,U⟩) (n+1) W);exact Tm (Tl O _ _ _) O ⟨O,_,(((j.alloc _).drew).grown b l).QM _,((eD.refl M I).set _ _).own m,u.below.trans K⟩
end
theorem DQ(M l b:Nat)(j x:V6)(w:V5)(hd:jX w M j l b 0 x)(u:TypeId)(p:V6)(he:w.cell? ⟨5,0,U⟩=S (.iface u p)):V7 prog 191 #[V9 (S ⟨M,0,U⟩)] w λe m=>e=.panicked [{ v := .iface u p,recovered:=false }]/\m=w:=by
 go_enter func191,ntmps191;go_wp2_with fail;refine(mf M l b j x w hd u p he).mono ?_;rintro e r ⟨rfl,rfl⟩;go_wp2;exact⟨O,O,O⟩
theorem zq{w:V5}{B e size n g cap:Nat}{ys:List V6}(h:w.ownsRow B e size (J (S ⟨g,0,U⟩) (n+1) cap) (n+1) ys):w.ownsRow B e size (J (S ⟨g,0,U⟩) n cap) n (ys.take (n*size)):=by
 obtain⟨r,b⟩:=h;rcases b with ⟨b,_⟩|⟨G,m,j,u,y,z,I,A,C,F⟩
 .cases b
 .cases u;have l:n*size<=(n+1)*size:=VH _ (by omega);refine⟨by rw[Uz,r];omega,.inr ⟨g,cap,j,O,y,z,by omega,A,C,?_⟩⟩;rw[<-F,UN,Vh l]
theorem Py(M m b h n g cap:Nat)(l:V6)(C:List V6)(w:V5)(hd:jX w M l m b h (J (S ⟨g,0,U⟩) (n+1) cap))(hn:n<=10000)(z:w.ownsRow (M+1) 313 2 (J (S ⟨g,0,U⟩) (n+1) cap) (n+1) (C++[Z Y 1,Z Y h]))(Q:C.length=n*2):V7 prog 193 #[V9 (S ⟨M,0,U⟩)] w λe y=>e=Wd (Wb #[])/\jX y M l m b h (J (S ⟨g,0,U⟩) n cap)/\y.ownsRow (M+1) 313 2 (J (S ⟨g,0,U⟩) n cap) n C/\Below M w y:=by
 have q0:w.cell? ⟨g,n*2,U⟩=S (Z Y 1):=(z.cellAt (n*2) (by omega)).trans (by rw[Tx (by omega),Q];simp);have q1:w.cell? ⟨g,n*2+1,U⟩=S (Z Y h):=(z.cellAt (n*2+1) (by omega)).trans (by rw[Tx (by omega),Q];simp);have q2:=z.frozenAt (n*2);have F:M<g:=(z.lt g O).1;have V:M≠g:=by omega
 have W:g≠M:=by omega
 have R:n+1<=cap:=by
  rcases z.2 with ⟨X,_⟩|⟨g',T,q,t,hB,hg,r⟩
  .cases X
  .cases t;exact r.1
 have s:(n:Int)<=(cap:Int):=by omega
 have o:n<=cap:=by omega
 have e1:=hd.hh;have e2:=hd.ll;have e3:=hd.fz 29;have g0:((n+1:Nat):Int)-1=(n:Int):=by omega
 have g1:(0:Int)<=(n:Int):=TS _;have g2:(n:Int)<((n+1:Nat):Int):=by omega
 have g3:(((h:Nat):Int) != ((h:Nat):Int))=Wg:=by simp
 have G:Hid (∀k,(λy=>jX y M l m b h (J (S ⟨g,0,U⟩) n cap)/\y.ownsRow (M+1) 313 2 (J (S ⟨g,0,U⟩) n cap) n C/\Below M w y) ((((w.drewN k).setCell ⟨g,n*2,U⟩ (Z Y 0)).setCell ⟨M,29,U⟩ (J (S ⟨g,0,U⟩) n cap)).drew)):=by
  intro k;have u:=below_drewN w k;have I:jX (w.drewN k) M l m b h (J (S ⟨g,0,U⟩) (n+1) cap):=hd.far (λj=>u.cell (p:=⟨M,j,U⟩) hd.lt) (λj=>u.frozen (p:=⟨M,j,U⟩) hd.lt);have K:=de z u;have A:=K.stored (n*2) (Z Y 0);have L:=I.grown A.2 (by simp[Value.ownBlock];omega);have B:=zq A.1;rw[VW _ _ (by omega),List.take_left' (by omega)] at B;have P:=((u.mono (Ub hd.lt)).setCell (p:=⟨g,n*2,U⟩) (Ub F) (Z Y 0)).setCell (p:=⟨M,29,U⟩) V2 (J (S ⟨g,0,U⟩) n cap);exact⟨(L.QM _).drew,(((eD.refl M _).set _ _).own B).drew,P.drew⟩
 go_enter func193,ntmps193;go_wp2_with fail
 go_quiet (fail)
 go_wp2_with fail
 go_quiet (fail)
 go_wp2
 go_region
 generalize nq=n2 at *;exact Tm (Tl O _ _ _) O ⟨O,(cT G _).1,(cT G _).2.1,(cT G _).2.2⟩
theorem Mt(M l b h m n g cap:Nat)(j:V6)(r:List V6)(w:V5)(hd:jX w M j l b h (J (S ⟨g,0,U⟩) (n+1) cap))(B:n<=10000)(y:w.ownsRow (M+1) 313 2 (J (S ⟨g,0,U⟩) (n+1) cap) (n+1) (r++[Z Y 1,Z Y m]))(z:r.length=n*2)(C:h≠m)(u:TypeId)(p:V6)(he:w.cell? ⟨5,0,U⟩=S (.iface u p)):V7 prog 193 #[V9 (S ⟨M,0,U⟩)] w λe A=>e=.panicked [{ v := .iface u p,recovered:=false }]/\V4 w A:=by
 have F:w.cell? ⟨g,n*2+1,U⟩=S (Z Y m):=(y.cellAt (n*2+1) (by omega)).trans (by rw[Tx (by omega),z];simp);have G:=hd.hh;have I:=hd.ll;have K:((n+1:Nat):Int)-1=(n:Int):=by omega
 have L:(0:Int)<=(n:Int):=TS _;have P:(n:Int)<((n+1:Nat):Int):=by omega
 have Q:(((h:Nat):Int) != ((m:Nat):Int))=We:=by rw[UZ];omega
 go_enter func193,ntmps193;go_wp2_with fail
 go_quiet (fail)
 go_wp2_with fail
 go_quiet (fail)
 go_wp2;exact⟨O,O,below_drewN _ _⟩
theorem Fi(R:Ending->V5->Prop)(M:Nat)(w:V5)(h:V7 prog 191 #[V9 (S ⟨M,0,U⟩)] w R)(j:∀e l,R e l->e=Wd (Wb #[])\/∃v,e=.panicked [{ v:=v,recovered:=false }]):V7 prog 190 #[V9 (S ⟨M,0,U⟩)] w R:=by
 go_enter func190,ntmps190;go_wp2_with fail;refine h.mono ?_;intro e m b;rcases j e m b with rfl|⟨v,rfl⟩
 .go_wp2;exact Tm (Tl O _ _ _) O b
 .go_wp2;exact⟨O,b⟩
theorem ER(R:Ending->V5->Prop)(M:Nat)(w:V5)(h:V7 prog 193 #[V9 (S ⟨M,0,U⟩)] w R)(j:∀e l,R e l->e=Wd (Wb #[])\/∃v,e=.panicked [{ v:=v,recovered:=false }]):V7 prog 192 #[V9 (S ⟨M,0,U⟩)] w R:=by
 go_enter func192,ntmps192;go_wp2_with fail;refine h.mono ?_;intro e m b;rcases j e m b with rfl|⟨v,rfl⟩
 .go_wp2;exact Tm (Tl O _ _ _) O b
 .go_wp2;exact⟨O,b⟩
end Go.Proofs.YtgkkdpegcieakaaGreatDoor
