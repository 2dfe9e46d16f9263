import Derived.Test.YtgkkdpegcieakaaGreatDoorCz05
set_option linter.unusedVariables false
set_option linter.unusedSimpArgs false
set_option maxRecDepth 100000
set_option maxHeartbeats 16000000
namespace Go.Proofs.YtgkkdpegcieakaaGreatDoor
open Go.Proofs.Tryz
open Value renaming int→Z
open IntKind renaming i64→Y
open Go renaming World→TJ,Value→TK,Calls→TL
section
open Go.RowKit
def Sp.yn:List (List UInt8):=[[118,97,108,117,101],[111,108,100],[105,110],[103,111,116],[115,116,101,112],[105,100],[100,101,103],[97,108,108],[119,101,105,103,104,116],[43],[45],[42],[47],[37],[60],[61],[109,105,110],[109,97,120],[100,117,112],[100,114,111,112],[115,119,97,112],[111,118,101,114],[63],[91],[93]]
def Qc:List Nat:=[161,163,164,165,166,167,168,169,170,171,173,174,175,177,178,180,181,182,183,185,186,187,188,190,192]
def yv:Array TK := #[.string ⟨#[118,97,108,117,101]⟩,.bool false,.func (.func 161) #[] #[],
 .string ⟨#[111,108,100]⟩,.bool false,.func (.func 163) #[] #[],
 .string ⟨#[105,110]⟩,.bool false,.func (.func 164) #[] #[],
 .string ⟨#[103,111,116]⟩,.bool false,.func (.func 165) #[] #[],
 .string ⟨#[115,116,101,112]⟩,.bool false,.func (.func 166) #[] #[],
 .string ⟨#[105,100]⟩,.bool false,.func (.func 167) #[] #[],
 .string ⟨#[100,101,103]⟩,.bool false,.func (.func 168) #[] #[],
 .string ⟨#[97,108,108]⟩,.bool false,.func (.func 169) #[] #[],
 .string ⟨#[119,101,105,103,104,116]⟩,.bool true,.func (.func 170) #[] #[],
 .string ⟨#[43]⟩,.bool false,.func (.func 171) #[] #[],
 .string ⟨#[45]⟩,.bool false,.func (.func 173) #[] #[],
 .string ⟨#[42]⟩,.bool false,.func (.func 174) #[] #[],
 .string ⟨#[47]⟩,.bool false,.func (.func 175) #[] #[],
 .string ⟨#[37]⟩,.bool false,.func (.func 177) #[] #[],
 .string ⟨#[60]⟩,.bool false,.func (.func 178) #[] #[],
 .string ⟨#[61]⟩,.bool false,.func (.func 180) #[] #[],
 .string ⟨#[109,105,110]⟩,.bool false,.func (.func 181) #[] #[],
 .string ⟨#[109,97,120]⟩,.bool false,.func (.func 182) #[] #[],
 .string ⟨#[100,117,112]⟩,.bool false,.func (.func 183) #[] #[],
 .string ⟨#[100,114,111,112]⟩,.bool false,.func (.func 185) #[] #[],
 .string ⟨#[115,119,97,112]⟩,.bool false,.func (.func 186) #[] #[],
 .string ⟨#[111,118,101,114]⟩,.bool false,.func (.func 187) #[] #[],
 .string ⟨#[63]⟩,.bool false,.func (.func 188) #[] #[],
 .string ⟨#[91]⟩,.bool false,.func (.func 190) #[] #[],
 .string ⟨#[93]⟩,.bool false,.func (.func 192) #[] #[]]
def gX(b:Nat)(w:TJ):Prop:=w.heap[b]?=some (.cells yv 275)
theorem Fz(w:TJ):TL prog 109 #[] w λe b=>e=.returned (.slice (some ⟨w.heap.size,0,none⟩) 25 25)/\TI w b/\gX w.heap.size b:=by
 go_enter func109,ntmps109;go_wp2;exact cr (v := .slice (some ⟨w.heap.size,0,none⟩) 25 25) (by simp[results,results109,go_sem]) rfl ⟨rfl,TH.alloc TG _,Array.getElem?_push_size⟩
def yh(i:Nat):TM:=⟨⟨Sp.yn[i]!⟩⟩
def tc(i:Nat):Bool:=i == 8
def oT(i:Nat):TK := .func (.func (Qc[i]!)) #[] #[]
theorem Pu:(i:Nat)->i<25->yv[3*i]?=some (.string (yh i))
 |0,_=>rfl
 |1,_=>rfl
 |2,_=>rfl
 |3,_=>rfl
 |4,_=>rfl
 |5,_=>rfl
 |6,_=>rfl
 |7,_=>rfl
 |8,_=>rfl
 |9,_=>rfl
 |10,_=>rfl
 |11,_=>rfl
 |12,_=>rfl
 |13,_=>rfl
 |14,_=>rfl
 |15,_=>rfl
 |16,_=>rfl
 |17,_=>rfl
 |18,_=>rfl
 |19,_=>rfl
 |20,_=>rfl
 |21,_=>rfl
 |22,_=>rfl
 |23,_=>rfl
 |24,_=>rfl
 |n+25,h=>absurd h (by omega)
theorem Pd:(i:Nat)->i<25->yv[3*i+1]?=some (.bool (tc i))
 |0,_=>rfl
 |1,_=>rfl
 |2,_=>rfl
 |3,_=>rfl
 |4,_=>rfl
 |5,_=>rfl
 |6,_=>rfl
 |7,_=>rfl
 |8,_=>rfl
 |9,_=>rfl
 |10,_=>rfl
 |11,_=>rfl
 |12,_=>rfl
 |13,_=>rfl
 |14,_=>rfl
 |15,_=>rfl
 |16,_=>rfl
 |17,_=>rfl
 |18,_=>rfl
 |19,_=>rfl
 |20,_=>rfl
 |21,_=>rfl
 |22,_=>rfl
 |23,_=>rfl
 |24,_=>rfl
 |n+25,h=>absurd h (by omega)
theorem Pc:(i:Nat)->i<25->yv[3*i+2]?=some (oT i)
 |0,_=>rfl
 |1,_=>rfl
 |2,_=>rfl
 |3,_=>rfl
 |4,_=>rfl
 |5,_=>rfl
 |6,_=>rfl
 |7,_=>rfl
 |8,_=>rfl
 |9,_=>rfl
 |10,_=>rfl
 |11,_=>rfl
 |12,_=>rfl
 |13,_=>rfl
 |14,_=>rfl
 |15,_=>rfl
 |16,_=>rfl
 |17,_=>rfl
 |18,_=>rfl
 |19,_=>rfl
 |20,_=>rfl
 |21,_=>rfl
 |22,_=>rfl
 |23,_=>rfl
 |24,_=>rfl
 |n+25,h=>absurd h (by omega)
theorem AW{b:Nat}{w:TJ}(h:gX b w){i:Nat}(hi:i<25):w.cell? ⟨b,3*i,none⟩=some (.string (yh i))/\w.cell? ⟨b,3*i+1,none⟩=some (.bool (tc i))/\w.cell? ⟨b,3*i+2,none⟩=some (oT i):=by
 unfold gX at h;refine⟨?_,?_,?_⟩ <;> simp only[World.cell?,h]
 .exact Pu i hi
 .exact Pd i hi
 .exact Pc i hi
theorem gX.below{b:Nat}{w w':TJ}(h:gX b w)(hb:TI w w'):gX b w':=(hb.block _ (ps h)).trans h
end
section
open Go.RowKit
theorem Cy{w:TJ}{G t:Nat}{b c1 c2:TK}(h:w.heap[G]?=some (.cells #[b,c1,c2] t)):w.cell? ⟨G,0,none⟩=some b/\w.cell? ⟨G,1,none⟩=some c1/\w.cell? ⟨G,2,none⟩=some c2/\∀j,w.frozen? ⟨G,j,none⟩=false:=⟨by simp[World.cell?,h],by simp[World.cell?,h],by simp[World.cell?,h],λj=>by simp[World.frozen?,h]⟩
def j4(w:TJ)(B:Nat)(n:Int):Prop:=w.heap[B]?=some (.cells #[Z Y n] 2)
theorem j4.cell{w:TJ}{B:Nat}{n:Int}(h:j4 w B n):w.cell? ⟨B,0,none⟩=some (Z Y n):=by
 unfold j4 at h;simp[World.cell?,h]
def yG(B:Nat):TK := .agg #[.string ⟨#[]⟩,.bool false,.func (.func 242) #[] #[.pointer (some ⟨B,0,none⟩)]]
theorem yo(s:TM)(k:TK)(w:TJ)(F:s.size<=4000)(n:Int)(G:Hid (Sp.number s.data.toList=some n)):TL prog 224 #[.string s,k] w λe z=>∃B,w.heap.size<=B/\j4 z B n/\e=.returned (.tuple #[yG B,.bool true])/\TI w z:=by
 go_enter func224,ntmps224;go_wp2_with fail;refine(mU s _ F).mono ?_;rintro e b ⟨rfl,l⟩;rw[cO G];unfold mZ;have A:=l.size;simp at A;have C:b.heap[w.heap.size]?=some (.cells #[.string ⟨#[]⟩,.bool false,.nilFunc] 275):=(l.block w.heap.size (by simp)).trans Array.getElem?_push_size;have r:TI w (b.alloc (.cells #[Z Y n] 2)):=(((cj w.heap.size w).alloc TG _).trans (l.mono (by simp))).alloc (by omega) _;have D:(b.alloc (.cells #[Z Y n] 2)).heap[w.heap.size]?=_:=(((cj b.heap.size b).alloc TG (.cells #[Z Y n] 2)).block _ A).trans C;obtain⟨H,I,J,m⟩:=Cy D;have L:=m 0;have M:=m 1;have N:=m 2;have E:j4 (b.alloc (.cells #[Z Y n] 2)) b.heap.size n:=ct b _;clear C D m;have u:w.heap.size≠b.heap.size:=by omega
 have y:∀(W:TJ) (j:Nat) (v:TK),j4 W b.heap.size n->j4 (W.setCell ⟨w.heap.size,j,none⟩ v) b.heap.size n:=λW j v h =>
  (cG _ _ _ _ (λe=>u e.symm)).trans h
 have K:=cP E;clear E;go_wp2;refine cr (v := .tuple #[yG b.heap.size,.bool true]) ?_ rfl ⟨b.heap.size,by omega,y _ _ _ (y _ _ _ (y _ _ _ (cO K))),rfl,((r.setCell TG _).setCell TG _).setCell TG _⟩;simp[results,results224,go_sem,yG,H,I,J]
def Hz(k:Nat):TK := .agg #[.string (yh k),.bool (tc k),oT k]
def uG:TK := .agg #[.string ⟨#[]⟩,.bool false,.nilFunc]
def Ps(x:List UInt8)(w:TJ)(e:Ending)(w':TJ):Prop:=TI w w'/\((∃k,k<25/\Sp.yn[k]! = x/\e=.returned (.tuple #[Hz k,.bool true]))\/((∀k,k<25->Sp.yn[k]!≠x)/\e=.returned (.tuple #[uG,.bool false])))
theorem wP(s:TM)(b:Nat)(w:TJ)(p:s.size<=4000)(o:gX b w)(hn:Hid (Sp.number s.data.toList=none)):TL prog 224 #[.string s,.slice (some ⟨b,0,none⟩) 25 25] w (Ps s.data.toList w):=by
 go_enter func224,ntmps224;go_wp2_with fail;refine(mU s _ p).mono ?_;rintro e r ⟨rfl,l⟩;rw[cO hn];unfold mZ;have P:=l.size;simp at P;have Q:r.heap[w.heap.size]?=some (.cells #[.string ⟨#[]⟩,.bool false,.nilFunc] 275):=(l.block w.heap.size (by simp)).trans Array.getElem?_push_size;have I:TI w (r.alloc (.cells #[Z Y 0] 2)):=(((cj w.heap.size w).alloc TG _).trans (l.mono (by simp))).alloc (by omega) _;have J:(r.alloc (.cells #[Z Y 0] 2)).heap[w.heap.size]?=_:=(((cj r.heap.size r).alloc TG (.cells #[Z Y 0] 2)).block _ P).trans Q;have B:w.heap.size<(r.alloc (.cells #[Z Y 0] 2)).heap.size:=by simp;omega
 go_wp2_with fail;generalize (r.alloc (.cells #[Z Y 0] 2))=R at *;clear l Q
 go_loopw [20] (λi wr=>∃k:Nat,k<=25/\i=Z Y k/\TI R wr/\Hid (∀j,j<k->Sp.yn[j]!≠s.data.toList)) (λi _=>25-(intOf i).toNat)
 case atStart=>exact⟨0,by omega,rfl,cj _ _,λj S=>absurd S (by omega)⟩
 case round =>
  obtain⟨k,hk,rfl,C,T⟩:=hrel;have u:=I.trans (C.mono (by omega));have G:=(C.block _ B).trans J;by_cases D:k<25
  .obtain⟨U,V,W⟩:=AW (o.below u) D;rw[M7 3 k] at U V W;have aa:(0:Int)<=(k:Int):=iJ _;have ab:(k:Int)<(25:Int):=by omega
   obtain⟨y,H⟩:∃y,Hid (y=yh k):=⟨_,rfl⟩
   obtain⟨E,X⟩:∃E,Hid (E=tc k):=⟨_,rfl⟩
   obtain⟨F,q⟩:∃F,Hid (Value.func (.func F) #[] #[]=oT k):=⟨_,rfl⟩
   rw[<-cO H] at U;rw[<-cO X] at V;rw[<-cO q] at W;have z:w.heap.size<wr.heap.size:=dT B C.size;have t:(wr.alloc (.cells #[.string y,.bool E,.func (.func F) #[] #[]] 275)).heap[w.heap.size]?=_:=(((cj wr.heap.size wr).alloc TG (.cells #[.string y,.bool E,.func (.func F) #[] #[]] 275)).block _ z).trans G;have K:=u.alloc (o9 z) (.cells #[.string y,.bool E,.func (.func F) #[] #[]] 275);obtain⟨L,M,N,m⟩:=Cy t;have f0:=m 0;have f1:=m 1;have f2:=m 2;clear m G J t;by_cases A:Sp.yn[k]! = s.data.toList
   .have O:=cP A;have g:(y.toList == s.toList)=true:=by
     rw[cO H,Eb s];exact pC A
    clear A;clear z;go_wp2;refine cr (v := .tuple #[Hz k,.bool true]) ?_ rfl ⟨((K.setCell TG _).setCell TG _).setCell TG _,Or.inl ⟨k,D,cO O,rfl⟩⟩;simp[results,results224,go_sem,Hz,L,M,N,<-cO H,<-cO X,<-cO q]
   .have O:=cP A;have g:(y.toList == s.toList)=false:=by
     rw[cO H,Eb s];exact pE A
    clear A;go_wp2;go_roundw
    case rel=>exact⟨k+1,by omega,by go_num,C.alloc C.size _,λj S=>if h:j=k then h ▸ cO O else cO T j (by omega)⟩
    case measure=>simp[intOf];omega
  .obtain rfl:k=25:=by omega
   obtain⟨L,M,N,m⟩:=Cy G;have f0:=m 0;have f1:=m 1;have f2:=m 2;clear m G J;go_wp2;refine cr (v := .tuple #[uG,.bool false]) ?_ rfl ⟨((u.setCell TG _).setCell TG _).setCell TG _,Or.inr ⟨cO T,rfl⟩⟩;simp[results,results224,go_sem,uG,L,M,N]
end
section
open Go.RowKit
structure jW (w:TJ) (M:Nat) (code:TK) (at' fuel h:Nat) (loops:TK):Prop where
 c0:w.cell? ⟨M,0,none⟩=some code
 c1:w.cell? ⟨M,1,none⟩=some (Z Y at')
 c2:w.cell? ⟨M,2,none⟩=some (Z Y fuel)
 sg:∀j,j<9->∃n:Int,w.cell? ⟨M,3+j,none⟩=some (Z Y n)
 st:∀j,j<16->∃n:Int,w.cell? ⟨M,12+j,none⟩=some (Z Y n)
 hh:w.cell? ⟨M,28,none⟩=some (Z Y h)
 ll:w.cell? ⟨M,29,none⟩=some loops
 dr:w.cell? ⟨M,30,none⟩=some (.bool true)
 fz:∀j,w.frozen? ⟨M,j,none⟩=false
structure ey (M:Nat) (w w':TJ):Prop where
 size:w'.heap.size=w.heap.size
 block:∀b,b≠M->w'.heap[b]?=w.heap[b]?
 os:w'.os=w.os
 tape:w'.tape=w.tape
 output:w'.output=w.output
theorem ey.refl(M:Nat)(w:TJ):ey M w w:=⟨rfl,λ_ _=>rfl,rfl,rfl,rfl⟩
variable {w' w:TJ}{M:Nat}
theorem ey.trans{e:TJ}(h:ey M w w')(j:ey M w' e): ey M w e:=⟨j.1.trans h.1,λb l=>(j.2 b l).trans (h.2 b l),j.os.trans h.os,j.tape.trans h.tape,j.output.trans h.output⟩
theorem ey.drew(h:ey M w w'): ey M w w'.drew:=⟨h.1,h.2,h.os,h.tape,h.output⟩
theorem ey.below(h:ey M w w'): Below M w w':=⟨h.os,h.tape,h.output,Nf h.size.symm,λb e=>h.block b (by omega)⟩
theorem ey.set(h:ey M w w')(j:Nat)(v:TK): ey M w (w'.setCell ⟨M,j,none⟩ v):=by
 refine⟨by rw[<-h.1];simp,λb e=>?_,h.os,h.tape,h.output⟩;rw[<-h.2 b e];exact cG _ _ _ _ e
theorem cR{W:TJ}{i j:Nat}{v:TK}(h:i≠j): (W.setCell ⟨M,i,none⟩ v).cell? ⟨M,j,none⟩=W.cell? ⟨M,j,none⟩:=jx W ⟨M,i,none⟩ ⟨M,j,none⟩ v (by intro e;injection e with _ e1;exact h e1)
variable {at' h fuel:Nat}{code loops:TK}
theorem jW.drew(hd:jW w M code at' fuel h loops): jW w.drew M code at' fuel h loops:=⟨hd.c0,hd.c1,hd.c2,hd.sg,hd.st,hd.hh,hd.ll,hd.dr,hd.fz⟩
theorem jW.val(hd:jW w M code at' fuel h loops)(i:Nat)(hi:i<16)(v:Int): jW (w.setCell ⟨M,12+i,none⟩ (Z Y v)) M code at' fuel h loops:=by
 obtain⟨m,r,u,y,l,z,A,B,C⟩:=hd;refine⟨?_,?_,?_,λj b=>?_,λj b=>?_,?_,?_,?_,λj=>?_⟩
 .rw[cR (by omega)];exact m
 .rw[cR (by omega)];exact r
 .rw[cR (by omega)];exact u
 .rw[cR (by omega)];exact y j b
 .by_cases e:i=j
  .subst e;obtain⟨n,D⟩:=l i hi;exact⟨v,mm _ _ _ D⟩
  .rw[cR (by omega)];exact l j b
 .rw[cR (by omega)];exact z
 .rw[cR (by omega)];exact A
 .rw[cR (by omega)];exact B
 .rw[kX];exact C j
theorem jW.wO(hd:jW w M code at' fuel h loops)(e:Nat): jW (w.setCell ⟨M,28,none⟩ (Z Y e)) M code at' fuel e loops:=by
 obtain⟨l,m,r,u,y,z,A,B,C⟩:=hd;refine⟨?_,?_,?_,λj b=>?_,λj b=>?_,?_,?_,?_,λj=>?_⟩
 .rw[cR (by omega)];exact l
 .rw[cR (by omega)];exact m
 .rw[cR (by omega)];exact r
 .rw[cR (by omega)];exact u j b
 .rw[cR (by omega)];exact y j b
 .exact mm _ _ _ z
 .rw[cR (by omega)];exact A
 .rw[cR (by omega)];exact B
 .rw[kX];exact C j
theorem fe(v:Int)(M at' fuel h:Nat)(code loops:TK)(w:TJ)(hd:jW w M code at' fuel h loops)(b:h<16):TL prog 162 #[.pointer (some ⟨M,0,none⟩),Z Y v] w λe w'=>e=.returned (.tuple #[])/\jW w' M code at' fuel (h+1) loops/\ey M w w':=by
 have j:=hd.hh;obtain⟨x,l⟩:=hd.st h b;have m:=hd.fz (12+h);have r:=hd.fz 28;have u:(((h:Nat):Int) == 16)=false:=cC.2 (by omega);have y:(0:Int)<=(h:Int):=iJ _;have z:(h:Int)<(16:Int):=by omega
 go_enter func162,ntmps162;go_wp2
 go_region
 go_wp2;exact cw (cu rfl _ _ _) rfl ⟨rfl,((hd.val h b v).wO (h+1)).drew,(((ey.refl M w).set _ _).set _ _).drew⟩
theorem gN(v:Int)(M at' fuel h:Nat)(code loops:TK)(w:TJ)(hd:jW w M code at' fuel h loops)(b:h=16)(u:TypeId)(p:TK)(he:w.cell? ⟨5,0,none⟩=some (.iface u p)):TL prog 162 #[.pointer (some ⟨M,0,none⟩),Z Y v] w λe w'=>e=.panicked [{ v := .iface u p,recovered:=false }]/\w'=w:=by
 have j:=hd.hh;subst b;go_enter func162,ntmps162;go_wp2;exact⟨rfl,rfl,rfl⟩
theorem nN(M at' fuel h:Nat)(code loops:TK)(w:TJ)(hd:jW w M code at' fuel (h+1) loops)(b:h<16):TL prog 184 #[.pointer (some ⟨M,0,none⟩)] w λe w'=>e=.returned (Z Y 1)/\jW w' M code at' fuel h loops/\ey M w w':=by
 have j:=hd.hh;have l:=hd.fz 28;have m:=hd.dr;have r:((((h+1:Nat)):Int) == 0)=false:=cC.2 (by omega);have u:((h+1:Nat):Int)-1=(h:Int):=by omega
 go_enter func184,ntmps184;go_wp2;exact cr (v := Z Y 1) (by simp[results,results184,go_sem]) rfl ⟨rfl,hd.wO h,(ey.refl M w).set _ _⟩
theorem ma(M at' fuel:Nat)(code loops:TK)(w:TJ)(hd:jW w M code at' fuel 0 loops)(u:TypeId)(p:TK)(he:w.cell? ⟨5,0,none⟩=some (.iface u p)):TL prog 184 #[.pointer (some ⟨M,0,none⟩)] w λe w'=>e=.panicked [{ v := .iface u p,recovered:=false }]/\w'=w:=by
 have b:=hd.hh;go_enter func184,ntmps184;go_wp2;exact⟨rfl,rfl,rfl⟩
theorem ey.cell(h:ey M w w'){b j:Nat}(hb:b≠M): w'.cell? ⟨b,j,none⟩=w.cell? ⟨b,j,none⟩:=by
 simp only[World.cell?,h.2 b hb]
theorem fK(M at' fuel h:Nat)(code loops:TK)(w:TJ)(hd:jW w M code at' fuel (h+2) loops)(r:h+1<16):TL prog 172 #[.pointer (some ⟨M,0,none⟩)] w λe w'=>e=.returned (.tuple #[Z Y 1,Z Y 1])/\jW w' M code at' fuel h loops/\ey M w w':=by
 go_enter func172,ntmps172;go_wp2_with fail;refine(nN M at' fuel (h+1) code loops w hd r).mono ?_;rintro e u ⟨rfl,b,j⟩;go_wp2_with fail;refine(nN M at' fuel h code loops u b (by omega)).mono ?_;rintro e y ⟨rfl,l,m⟩;go_wp2;exact cr (v := .tuple #[Z Y 1,Z Y 1]) (by simp[results,results172,go_sem]) rfl ⟨rfl,l,j.trans m⟩
theorem eP(M at' fuel h:Nat)(code loops:TK)(w:TJ)(hd:jW w M code at' fuel h loops)(m:h<2)(u:TypeId)(p:TK)(r:5≠M)(he:w.cell? ⟨5,0,none⟩=some (.iface u p)):TL prog 172 #[.pointer (some ⟨M,0,none⟩)] w λe w'=>e=.panicked [{ v := .iface u p,recovered:=false }]/\ey M w w':=by
 match h,m with
 |0,_ =>
  go_enter func172,ntmps172;go_wp2_with fail;refine(ma M at' fuel code loops w hd u p he).mono ?_;rintro e l ⟨rfl,rfl⟩;go_wp2;exact⟨rfl,rfl,ey.refl _ _⟩
 |1,_ =>
  go_enter func172,ntmps172;go_wp2_with fail;refine(nN M at' fuel 0 code loops w hd (by omega)).mono ?_;rintro e l ⟨rfl,j,b⟩;go_wp2_with fail;refine(ma M at' fuel code loops l j u p ((b.cell r).trans he)).mono ?_;rintro e y ⟨rfl,rfl⟩;go_wp2;exact⟨rfl,rfl,b⟩
end
section
open Go.RowKit
def CS(n m:Nat)(M r j h:Nat)(l b:TK)(u:TypeId)(p:TK)(w:TJ)(e:Ending)(w':TJ):Prop:=ey M w w'/\((n<=h/\h-n+m<=16/\e=.returned (.tuple #[])/\jW w' M l r j (h-n+m) b)\/(¬(n<=h/\h-n+m<=16)/\e=.panicked [{ v := .iface u p,recovered:=false }]))
structure uY (M h:Nat) (u:TypeId) (p:TK) (w:TJ):Prop where
 hM:5≠M
 he:w.cell? ⟨5,0,none⟩=some (.iface u p)
 hh:h<=16
def lF(F:Nat)(n m:Nat):Prop := ∀(M j e h:Nat) (code b:TK) (u:TypeId) (p:TK) (w:TJ),jW w M code j e h b->uY M h u p w->TL prog F #[.pointer (some ⟨M,0,none⟩)] w (CS n m M j e h code b u p w)
theorem do_1:lF 161 0 1:=by
 intro M m j h l b u p w hd z;obtain⟨n,C⟩:=hd.sg 0 (by omega);by_cases A:h<16
 .go_enter func161,ntmps161;go_wp2_with fail;refine(fe n M m j h l b w hd A).mono ?_;rintro e B ⟨rfl,r,y⟩;go_wp2;exact cw (cu rfl _ _ _) rfl ⟨y,Or.inl ⟨cy _,by omega,rfl,r⟩⟩
 .go_enter func161,ntmps161;go_wp2_with fail;refine(gN n M m j h l b w hd (by have:=z.hh;omega) u p z.he).mono ?_;rintro e B ⟨rfl,rfl⟩;go_wp2;exact⟨rfl,ey.refl _ _,Or.inr ⟨by omega,rfl⟩⟩
theorem Q7:lF 163 0 1:=by
 intro M m j h l b u p w hd z;obtain⟨n,C⟩:=hd.sg 7 (by omega);by_cases A:h<16
 .go_enter func163,ntmps163;go_wp2_with fail;refine(fe n M m j h l b w hd A).mono ?_;rintro e B ⟨rfl,r,y⟩;go_wp2;exact cw (cu rfl _ _ _) rfl ⟨y,Or.inl ⟨cy _,by omega,rfl,r⟩⟩
 .go_enter func163,ntmps163;go_wp2_with fail;refine(gN n M m j h l b w hd (by have:=z.hh;omega) u p z.he).mono ?_;rintro e B ⟨rfl,rfl⟩;go_wp2;exact⟨rfl,ey.refl _ _,Or.inr ⟨by omega,rfl⟩⟩
theorem QN:lF 164 0 1:=by
 intro M m j h l b u p w hd z;obtain⟨n,C⟩:=hd.sg 1 (by omega);by_cases A:h<16
 .go_enter func164,ntmps164;go_wp2_with fail;refine(fe n M m j h l b w hd A).mono ?_;rintro e B ⟨rfl,r,y⟩;go_wp2;exact cw (cu rfl _ _ _) rfl ⟨y,Or.inl ⟨cy _,by omega,rfl,r⟩⟩
 .go_enter func164,ntmps164;go_wp2_with fail;refine(gN n M m j h l b w hd (by have:=z.hh;omega) u p z.he).mono ?_;rintro e B ⟨rfl,rfl⟩;go_wp2;exact⟨rfl,ey.refl _ _,Or.inr ⟨by omega,rfl⟩⟩
theorem QL:lF 165 0 1:=by
 intro M m j h l b u p w hd z;obtain⟨n,C⟩:=hd.sg 2 (by omega);by_cases A:h<16
 .go_enter func165,ntmps165;go_wp2_with fail;refine(fe n M m j h l b w hd A).mono ?_;rintro e B ⟨rfl,r,y⟩;go_wp2;exact cw (cu rfl _ _ _) rfl ⟨y,Or.inl ⟨cy _,by omega,rfl,r⟩⟩
 .go_enter func165,ntmps165;go_wp2_with fail;refine(gN n M m j h l b w hd (by have:=z.hh;omega) u p z.he).mono ?_;rintro e B ⟨rfl,rfl⟩;go_wp2;exact⟨rfl,ey.refl _ _,Or.inr ⟨by omega,rfl⟩⟩
theorem QV:lF 166 0 1:=by
 intro M m j h l b u p w hd z;obtain⟨n,C⟩:=hd.sg 3 (by omega);by_cases A:h<16
 .go_enter func166,ntmps166;go_wp2_with fail;refine(fe n M m j h l b w hd A).mono ?_;rintro e B ⟨rfl,r,y⟩;go_wp2;exact cw (cu rfl _ _ _) rfl ⟨y,Or.inl ⟨cy _,by omega,rfl,r⟩⟩
 .go_enter func166,ntmps166;go_wp2_with fail;refine(gN n M m j h l b w hd (by have:=z.hh;omega) u p z.he).mono ?_;rintro e B ⟨rfl,rfl⟩;go_wp2;exact⟨rfl,ey.refl _ _,Or.inr ⟨by omega,rfl⟩⟩
theorem QH:lF 167 0 1:=by
 intro M m j h l b u p w hd z;obtain⟨n,C⟩:=hd.sg 4 (by omega);by_cases A:h<16
 .go_enter func167,ntmps167;go_wp2_with fail;refine(fe n M m j h l b w hd A).mono ?_;rintro e B ⟨rfl,r,y⟩;go_wp2;exact cw (cu rfl _ _ _) rfl ⟨y,Or.inl ⟨cy _,by omega,rfl,r⟩⟩
 .go_enter func167,ntmps167;go_wp2_with fail;refine(gN n M m j h l b w hd (by have:=z.hh;omega) u p z.he).mono ?_;rintro e B ⟨rfl,rfl⟩;go_wp2;exact⟨rfl,ey.refl _ _,Or.inr ⟨by omega,rfl⟩⟩
theorem QK:lF 168 0 1:=by
 intro M m j h l b u p w hd z;obtain⟨n,C⟩:=hd.sg 5 (by omega);by_cases A:h<16
 .go_enter func168,ntmps168;go_wp2_with fail;refine(fe n M m j h l b w hd A).mono ?_;rintro e B ⟨rfl,r,y⟩;go_wp2;exact cw (cu rfl _ _ _) rfl ⟨y,Or.inl ⟨cy _,by omega,rfl,r⟩⟩
 .go_enter func168,ntmps168;go_wp2_with fail;refine(gN n M m j h l b w hd (by have:=z.hh;omega) u p z.he).mono ?_;rintro e B ⟨rfl,rfl⟩;go_wp2;exact⟨rfl,ey.refl _ _,Or.inr ⟨by omega,rfl⟩⟩
theorem QJ:lF 169 0 1:=by
 intro M m j h l b u p w hd z;obtain⟨n,C⟩:=hd.sg 6 (by omega);by_cases A:h<16
 .go_enter func169,ntmps169;go_wp2_with fail;refine(fe n M m j h l b w hd A).mono ?_;rintro e B ⟨rfl,r,y⟩;go_wp2;exact cw (cu rfl _ _ _) rfl ⟨y,Or.inl ⟨cy _,by omega,rfl,r⟩⟩
 .go_enter func169,ntmps169;go_wp2_with fail;refine(gN n M m j h l b w hd (by have:=z.hh;omega) u p z.he).mono ?_;rintro e B ⟨rfl,rfl⟩;go_wp2;exact⟨rfl,ey.refl _ _,Or.inr ⟨by omega,rfl⟩⟩
theorem QO:lF 170 0 1:=by
 intro M m j h l b u p w hd z;obtain⟨n,C⟩:=hd.sg 8 (by omega);by_cases A:h<16
 .go_enter func170,ntmps170;go_wp2_with fail;refine(fe n M m j h l b w hd A).mono ?_;rintro e B ⟨rfl,r,y⟩;go_wp2;exact cw (cu rfl _ _ _) rfl ⟨y,Or.inl ⟨cy _,by omega,rfl,r⟩⟩
 .go_enter func170,ntmps170;go_wp2_with fail;refine(gN n M m j h l b w hd (by have:=z.hh;omega) u p z.he).mono ?_;rintro e B ⟨rfl,rfl⟩;go_wp2;exact⟨rfl,ey.refl _ _,Or.inr ⟨by omega,rfl⟩⟩
theorem Px:lF 171 2 1:=by
 intro M m j h l b u p w hd y;by_cases D:h<2
 .go_enter func171,ntmps171;go_wp2_with fail;refine(eP M m j h l b w hd D u p y.hM y.he).mono ?_;rintro e C ⟨rfl,r⟩;go_wp2;exact⟨rfl,r,Or.inr ⟨by omega,rfl⟩⟩
 .obtain⟨h,rfl⟩:∃g,h=g+2:=⟨h-2,by omega⟩
  have E:=y.hh;go_enter func171,ntmps171;go_wp2_with fail;refine(fK M m j h l b w hd (by omega)).mono ?_;rintro e C ⟨rfl,z,r⟩;go_wp2_with fail;refine(fe _ M m j h l b C z (by omega)).mono ?_;rintro e F ⟨rfl,A,B⟩;go_wp2;exact cw (cu rfl _ _ _) rfl ⟨r.trans B,Or.inl ⟨by omega,by omega,rfl,A⟩⟩
theorem P0:lF 173 2 1:=by
 intro M m j h l b u p w hd y;by_cases D:h<2
 .go_enter func173,ntmps173;go_wp2_with fail;refine(eP M m j h l b w hd D u p y.hM y.he).mono ?_;rintro e C ⟨rfl,r⟩;go_wp2;exact⟨rfl,r,Or.inr ⟨by omega,rfl⟩⟩
 .obtain⟨h,rfl⟩:∃g,h=g+2:=⟨h-2,by omega⟩
  have E:=y.hh;go_enter func173,ntmps173;go_wp2_with fail;refine(fK M m j h l b w hd (by omega)).mono ?_;rintro e C ⟨rfl,z,r⟩;go_wp2_with fail;refine(fe _ M m j h l b C z (by omega)).mono ?_;rintro e F ⟨rfl,A,B⟩;go_wp2;exact cw (cu rfl _ _ _) rfl ⟨r.trans B,Or.inl ⟨by omega,by omega,rfl,A⟩⟩
theorem Po:lF 174 2 1:=by
 intro M m j h l b u p w hd y;by_cases D:h<2
 .go_enter func174,ntmps174;go_wp2_with fail;refine(eP M m j h l b w hd D u p y.hM y.he).mono ?_;rintro e C ⟨rfl,r⟩;go_wp2;exact⟨rfl,r,Or.inr ⟨by omega,rfl⟩⟩
 .obtain⟨h,rfl⟩:∃g,h=g+2:=⟨h-2,by omega⟩
  have E:=y.hh;go_enter func174,ntmps174;go_wp2_with fail;refine(fK M m j h l b w hd (by omega)).mono ?_;rintro e C ⟨rfl,z,r⟩;go_wp2_with fail;refine(fe _ M m j h l b C z (by omega)).mono ?_;rintro e F ⟨rfl,A,B⟩;go_wp2;exact cw (cu rfl _ _ _) rfl ⟨r.trans B,Or.inl ⟨by omega,by omega,rfl,A⟩⟩
theorem Pb:lF 181 2 1:=by
 intro M m j h l b u p w hd y;by_cases D:h<2
 .go_enter func181,ntmps181;go_wp2_with fail;refine(eP M m j h l b w hd D u p y.hM y.he).mono ?_;rintro e C ⟨rfl,r⟩;go_wp2;exact⟨rfl,r,Or.inr ⟨by omega,rfl⟩⟩
 .obtain⟨h,rfl⟩:∃g,h=g+2:=⟨h-2,by omega⟩
  have E:=y.hh;go_enter func181,ntmps181;go_wp2_with fail;refine(fK M m j h l b w hd (by omega)).mono ?_;rintro e C ⟨rfl,z,r⟩;go_wp2_with fail;refine(fe _ M m j h l b C z (by omega)).mono ?_;rintro e F ⟨rfl,A,B⟩;go_wp2;exact cw (cu rfl _ _ _) rfl ⟨r.trans B,Or.inl ⟨by omega,by omega,rfl,A⟩⟩
theorem Pn:lF 182 2 1:=by
 intro M m j h l b u p w hd y;by_cases D:h<2
 .go_enter func182,ntmps182;go_wp2_with fail;refine(eP M m j h l b w hd D u p y.hM y.he).mono ?_;rintro e C ⟨rfl,r⟩;go_wp2;exact⟨rfl,r,Or.inr ⟨by omega,rfl⟩⟩
 .obtain⟨h,rfl⟩:∃g,h=g+2:=⟨h-2,by omega⟩
  have E:=y.hh;go_enter func182,ntmps182;go_wp2_with fail;refine(fK M m j h l b w hd (by omega)).mono ?_;rintro e C ⟨rfl,z,r⟩;go_wp2_with fail;refine(fe _ M m j h l b C z (by omega)).mono ?_;rintro e F ⟨rfl,A,B⟩;go_wp2;exact cw (cu rfl _ _ _) rfl ⟨r.trans B,Or.inl ⟨by omega,by omega,rfl,A⟩⟩
end
section
open Go.RowKit
theorem oj(M m j h:Nat)(l b:TK)(w:TJ)(hd:jW w M l m j (h+2) b)(z:h+1<16):TL prog 176 #[.pointer (some ⟨M,0,none⟩)] w λe y=>e=.returned (.tuple #[Z Y 1,Z Y 1])/\jW y M l m j h b/\ey M w y:=by
 go_enter func176,ntmps176;go_wp2_with fail;refine(fK M m j h l b w hd z).mono ?_;rintro e A ⟨rfl,r,u⟩;go_wp2;exact cr (v := .tuple #[Z Y 1,Z Y 1]) (by simp[results,results176,go_sem]) rfl ⟨rfl,r,u⟩
theorem mM(M m j h:Nat)(l b:TK)(w:TJ)(hd:jW w M l m j h b)(y:h<2)(u:TypeId)(p:TK)(z:5≠M)(he:w.cell? ⟨5,0,none⟩=some (.iface u p)):TL prog 176 #[.pointer (some ⟨M,0,none⟩)] w λe A=>e=.panicked [{ v := .iface u p,recovered:=false }]/\ey M w A:=by
 go_enter func176,ntmps176;go_wp2_with fail;refine(eP M m j h l b w hd y u p z he).mono ?_;rintro e B ⟨rfl,r⟩;go_wp2;exact⟨rfl,rfl,r⟩
theorem tA(v:Bool)(M m j h:Nat)(l b:TK)(w:TJ)(hd:jW w M l m j h b)(y:h<16):TL prog 179 #[.pointer (some ⟨M,0,none⟩),.bool v] w λe z=>e=.returned (.tuple #[])/\jW z M l m j (h+1) b/\ey M w z:=by
 cases v with
 |true =>
  go_enter func179,ntmps179;go_wp2_with fail;refine(fe 1 M m j h l b w hd y).mono ?_;rintro e A ⟨rfl,r,u⟩;go_wp2;exact cw (cu rfl _ _ _) rfl ⟨rfl,r,u⟩
 |false =>
  go_enter func179,ntmps179;go_wp2_with fail;refine(fe 0 M m j h l b w hd y).mono ?_;rintro e A ⟨rfl,r,u⟩;go_wp2;exact cw (cu rfl _ _ _) rfl ⟨rfl,r,u⟩
theorem PL:lF 175 2 1:=by
 intro M m j h l b u p w hd y;by_cases D:h<2
 .go_enter func175,ntmps175;go_wp2_with fail;refine(mM M m j h l b w hd D u p y.hM y.he).mono ?_;rintro e C ⟨rfl,r⟩;go_wp2;exact⟨rfl,r,Or.inr ⟨by omega,rfl⟩⟩
 .obtain⟨h,rfl⟩:∃g,h=g+2:=⟨h-2,by omega⟩
  have E:=y.hh;go_enter func175,ntmps175;go_wp2_with fail;refine(oj M m j h l b w hd (by omega)).mono ?_;rintro e C ⟨rfl,z,r⟩;go_wp2_with fail;refine(fe _ M m j h l b C z (by omega)).mono ?_;rintro e F ⟨rfl,A,B⟩;go_wp2;exact cw (cu rfl _ _ _) rfl ⟨r.trans B,Or.inl ⟨by omega,by omega,rfl,A⟩⟩
theorem Qp:lF 177 2 1:=by
 intro M m j h l b u p w hd y;by_cases D:h<2
 .go_enter func177,ntmps177;go_wp2_with fail;refine(mM M m j h l b w hd D u p y.hM y.he).mono ?_;rintro e C ⟨rfl,r⟩;go_wp2;exact⟨rfl,r,Or.inr ⟨by omega,rfl⟩⟩
 .obtain⟨h,rfl⟩:∃g,h=g+2:=⟨h-2,by omega⟩
  have E:=y.hh;go_enter func177,ntmps177;go_wp2_with fail;refine(oj M m j h l b w hd (by omega)).mono ?_;rintro e C ⟨rfl,z,r⟩;go_wp2_with fail;refine(fe _ M m j h l b C z (by omega)).mono ?_;rintro e F ⟨rfl,A,B⟩;go_wp2;exact cw (cu rfl _ _ _) rfl ⟨r.trans B,Or.inl ⟨by omega,by omega,rfl,A⟩⟩
theorem Qi:lF 178 2 1:=by
 intro M m j h l b u p w hd y;by_cases D:h<2
 .go_enter func178,ntmps178;go_wp2_with fail;refine(eP M m j h l b w hd D u p y.hM y.he).mono ?_;rintro e C ⟨rfl,r⟩;go_wp2;exact⟨rfl,r,Or.inr ⟨by omega,rfl⟩⟩
 .obtain⟨h,rfl⟩:∃g,h=g+2:=⟨h-2,by omega⟩
  have E:=y.hh;go_enter func178,ntmps178;go_wp2_with fail;refine(fK M m j h l b w hd (by omega)).mono ?_;rintro e C ⟨rfl,z,r⟩;go_wp2_with fail;refine(tA _ M m j h l b C z (by omega)).mono ?_;rintro e F ⟨rfl,A,B⟩;go_wp2;exact cw (cu rfl _ _ _) rfl ⟨r.trans B,Or.inl ⟨by omega,by omega,rfl,A⟩⟩
theorem P9:lF 180 2 1:=by
 intro M m j h l b u p w hd y;by_cases D:h<2
 .go_enter func180,ntmps180;go_wp2_with fail;refine(eP M m j h l b w hd D u p y.hM y.he).mono ?_;rintro e C ⟨rfl,r⟩;go_wp2;exact⟨rfl,r,Or.inr ⟨by omega,rfl⟩⟩
 .obtain⟨h,rfl⟩:∃g,h=g+2:=⟨h-2,by omega⟩
  have E:=y.hh;go_enter func180,ntmps180;go_wp2_with fail;refine(fK M m j h l b w hd (by omega)).mono ?_;rintro e C ⟨rfl,z,r⟩;go_wp2_with fail;refine(tA _ M m j h l b C z (by omega)).mono ?_;rintro e F ⟨rfl,A,B⟩;go_wp2;exact cw (cu rfl _ _ _) rfl ⟨r.trans B,Or.inl ⟨by omega,by omega,rfl,A⟩⟩
theorem Py:lF 185 1 0:=by
 intro M m j h l b u p w hd A;have r:=A.hh
 match h,hd,r with
 |0,hd,_ =>
  go_enter func185,ntmps185;go_wp2_with fail;refine(ma M m j l b w hd u p A.he).mono ?_;rintro e B ⟨rfl,rfl⟩;go_wp2;exact⟨rfl,ey.refl _ _,Or.inr ⟨by omega,rfl⟩⟩
 |h+1,hd,r =>
  go_enter func185,ntmps185;go_wp2_with fail;refine(nN M m j h l b w hd (by omega)).mono ?_;rintro e B ⟨rfl,y,z⟩;go_wp2;exact cw (cu rfl _ _ _) rfl ⟨z,Or.inl ⟨by omega,by omega,rfl,y⟩⟩
theorem PD:lF 186 2 2:=by
 intro M m j h l b u p w hd y;by_cases F:h<2
 .go_enter func186,ntmps186;go_wp2_with fail;refine(eP M m j h l b w hd F u p y.hM y.he).mono ?_;rintro e E ⟨rfl,r⟩;go_wp2;exact⟨rfl,r,Or.inr ⟨by omega,rfl⟩⟩
 .obtain⟨h,rfl⟩:∃g,h=g+2:=⟨h-2,by omega⟩
  have G:=y.hh;go_enter func186,ntmps186;go_wp2_with fail;refine(fK M m j h l b w hd (by omega)).mono ?_;rintro e E ⟨rfl,z,r⟩;go_wp2_with fail;refine(fe _ M m j h l b E z (by omega)).mono ?_;rintro e H ⟨rfl,A,B⟩;go_wp2_with fail;refine(fe _ M m j (h+1) l b H A (by omega)).mono ?_;rintro e w3 ⟨rfl,C,D⟩;go_wp2;exact cw (cu rfl _ _ _) rfl ⟨(r.trans B).trans D,Or.inl ⟨by omega,by omega,rfl,C⟩⟩
end
section
open Go.RowKit
theorem Qn:lF 183 1 2:=by
 intro M m j h l b u p w hd B;have z:=B.hh
 match h,hd,z with
 |0,hd,_ =>
  go_enter func183,ntmps183;go_wp2_with fail;refine(ma M m j l b w hd u p B.he).mono ?_;rintro e F ⟨rfl,rfl⟩;go_wp2;exact⟨rfl,ey.refl _ _,Or.inr ⟨by omega,rfl⟩⟩
 |h+1,hd,z =>
  go_enter func183,ntmps183;go_wp2_with fail;refine(nN M m j h l b w hd (by omega)).mono ?_;rintro e F ⟨rfl,C,r⟩;go_wp2_with fail;refine(fe _ M m j h l b F C (by omega)).mono ?_;rintro e G ⟨rfl,A,y⟩;by_cases H:h+1<16
  .go_wp2_with fail;refine(fe _ M m j (h+1) l b G A H).mono ?_;rintro e w3 ⟨rfl,D,E⟩;go_wp2;exact cw (cu rfl _ _ _) rfl ⟨(r.trans y).trans E,Or.inl ⟨by omega,by omega,rfl,D⟩⟩
  .go_wp2_with fail;refine(gN _ M m j (h+1) l b G A (by omega) u p (((r.trans y).cell B.hM).trans B.he)).mono ?_;rintro e w3 ⟨rfl,rfl⟩;go_wp2;exact⟨rfl,r.trans y,Or.inr ⟨by omega,rfl⟩⟩
theorem Qe:lF 187 2 3:=by
 intro M m j h l b u p w hd y;by_cases I:h<2
 .go_enter func187,ntmps187;go_wp2_with fail;refine(eP M m j h l b w hd I u p y.hM y.he).mono ?_;rintro e H ⟨rfl,r⟩;go_wp2;exact⟨rfl,r,Or.inr ⟨by omega,rfl⟩⟩
 .obtain⟨h,rfl⟩:∃g,h=g+2:=⟨h-2,by omega⟩
  have J:=y.hh;go_enter func187,ntmps187;go_wp2_with fail;refine(fK M m j h l b w hd (by omega)).mono ?_;rintro e H ⟨rfl,A,r⟩;go_wp2_with fail;refine(fe _ M m j h l b H A (by omega)).mono ?_;rintro e K ⟨rfl,B,C⟩;go_wp2_with fail;refine(fe _ M m j (h+1) l b K B (by omega)).mono ?_;rintro e w3 ⟨rfl,z,D⟩;have E:=(r.trans C).trans D;by_cases L:h+2<16
  .go_wp2_with fail;refine(fe _ M m j (h+2) l b w3 z L).mono ?_;rintro e N ⟨rfl,F,G⟩;go_wp2;exact cw (cu rfl _ _ _) rfl ⟨E.trans G,Or.inl ⟨by omega,by omega,rfl,F⟩⟩
  .go_wp2_with fail;refine(gN _ M m j (h+2) l b w3 z (by omega) u p ((E.cell y.hM).trans y.he)).mono ?_;rintro e N ⟨rfl,rfl⟩;go_wp2;exact⟨rfl,E,Or.inr ⟨by omega,rfl⟩⟩
theorem CL:lF 189 3 1:=by
 intro M m j h l b u p w hd z;by_cases H:h<2
 .go_enter func189,ntmps189;go_wp2_with fail;refine(eP M m j h l b w hd H u p z.hM z.he).mono ?_;rintro e B ⟨rfl,r⟩;go_wp2;exact⟨rfl,r,Or.inr ⟨by omega,rfl⟩⟩
 .obtain⟨h,rfl⟩:∃g,h=g+2:=⟨h-2,by omega⟩
  have A:=z.hh;go_enter func189,ntmps189;go_wp2_with fail;refine(fK M m j h l b w hd (by omega)).mono ?_;rintro e B ⟨rfl,y,r⟩
  match h,y,A with
  |0,y,_ =>
   go_wp2_with fail;refine(ma M m j l b B y u p ((r.cell z.hM).trans z.he)).mono ?_;rintro e G ⟨rfl,rfl⟩;go_wp2;exact⟨rfl,r,Or.inr ⟨by omega,rfl⟩⟩
  |h+1,y,A =>
   go_wp2_with fail;refine(nN M m j h l b B y (by omega)).mono ?_;rintro e G ⟨rfl,C,D⟩;go_wp2_with fail;refine(fe _ M m j h l b G C (by omega)).mono ?_;rintro e w3 ⟨rfl,E,F⟩;go_wp2;exact cw (cu rfl _ _ _) rfl ⟨(r.trans D).trans F,Or.inl ⟨by omega,by omega,rfl,E⟩⟩
theorem P8:lF 188 3 1:=by
 intro M m j h l b u p w hd z;go_enter func188,ntmps188;go_wp2_with fail;refine(CL M m j h l b u p w hd z).mono ?_;rintro e C ⟨y,⟨A,B,rfl,r⟩|⟨g,rfl⟩⟩
 .go_wp2;exact cw (cu rfl _ _ _) rfl ⟨y,Or.inl ⟨A,B,rfl,r⟩⟩
 .go_wp2;exact⟨rfl,y,Or.inr ⟨g,rfl⟩⟩
end
section
open Go.RowKit
theorem OM(B:Nat)(n:Int)(M m j h:Nat)(l b:TK)(u:TypeId)(p:TK)(w:TJ)(hd:jW w M l m j h b)(z:uY M h u p w)(D:w.cell? ⟨B,0,none⟩=some (Z Y n)):TL prog 242 #[.pointer (some ⟨M,0,none⟩),.pointer (some ⟨B,0,none⟩)] w (CS 0 1 M m j h l b u p w):=by
 by_cases A:h<16
 .go_enter func242,ntmps242;go_wp2_with fail;refine(fe n M m j h l b w hd A).mono ?_;rintro e C ⟨rfl,r,y⟩;go_wp2;exact cw (cu rfl _ _ _) rfl ⟨y,Or.inl ⟨cy _,by omega,rfl,r⟩⟩
 .go_enter func242,ntmps242;go_wp2_with fail;refine(gN n M m j h l b w hd (by have:=z.hh;omega) u p z.he).mono ?_;rintro e C ⟨rfl,rfl⟩;go_wp2;exact⟨rfl,ey.refl _ _,Or.inr ⟨by omega,rfl⟩⟩
end
section
open Go.RowKit
theorem info_loop:(prog.info? 313).map (λi=>(i.zero,i.size,i.bytes))=some (some (.agg #[Z Y 0,Z Y 0]),2,16):=by kernel_rfl
variable {at' M h fuel:Nat}{w:TJ}{code loops:TK}
theorem jW.lt(hd:jW w M code at' fuel h loops): M<w.heap.size:=cE w _ hd.c0
variable {w':TJ}
theorem jW.far(hd:jW w M code at' fuel h loops)(b:∀j,w'.cell? ⟨M,j,none⟩=w.cell? ⟨M,j,none⟩)(l:∀j,w'.frozen? ⟨M,j,none⟩=w.frozen? ⟨M,j,none⟩): jW w' M code at' fuel h loops:=⟨(b 0).trans hd.c0,(b 1).trans hd.c1,(b 2).trans hd.c2,λj e=>by rw[b];exact hd.sg j e,λj e=>by rw[b];exact hd.st j e,(b 28).trans hd.hh,(b 29).trans hd.ll,(b 30).trans hd.dr,λj=>(l j).trans (hd.fz j)⟩
theorem jW.alloc(hd:jW w M code at' fuel h loops)(o:Obj): jW (w.alloc o) M code at' fuel h loops:=hd.far (λj=>((cj w.heap.size w).alloc TG o).cell (p:=⟨M,j,none⟩) hd.lt) (λj=>((cj w.heap.size w).alloc TG o).frozen (p:=⟨M,j,none⟩) hd.lt)
theorem jW.grown{b:Option Nat}(hd:jW w M code at' fuel h loops)(l:w.grownBy w' b)(e:some M≠b): jW w' M code at' fuel h loops:=hd.far (λj=>l.cell_far ⟨M,j,none⟩ hd.lt e) (λj=>l.frozen_far ⟨M,j,none⟩ hd.lt e)
theorem jW.PC(hd:jW w M code at' fuel h loops)(e:TK): jW (w.setCell ⟨M,29,none⟩ e) M code at' fuel h e:=by
 obtain⟨l,m,r,u,y,z,A,B,C⟩:=hd;refine⟨?_,?_,?_,λj b=>?_,λj b=>?_,?_,?_,?_,λj=>?_⟩
 .rw[cR (by omega)];exact l
 .rw[cR (by omega)];exact m
 .rw[cR (by omega)];exact r
 .rw[cR (by omega)];exact u j b
 .rw[cR (by omega)];exact y j b
 .rw[cR (by omega)];exact z
 .exact mm _ _ _ A
 .rw[cR (by omega)];exact B
 .rw[kX];exact C j
theorem ey.own(h:ey M w w'){e size n:Nat}{v:TK}{m:List TK}(u:w.ownsRow (M+1) e size v n m): w'.ownsRow (M+1) e size v n m:=by
 obtain⟨y,b⟩:=u;refine⟨y,?_⟩;rcases b with b|⟨g,j,l,z,A,B,r⟩
 .exact .inl b
 .exact .inr ⟨g,j,l,z,A,(h.2 g (by omega)).trans B,r⟩
theorem Hg(M at' fuel h n:Nat)(code x:TK)(y:List TK)(w:TJ)(hd:jW w M code at' fuel (h+1) x)(J:h+1<=16)(S:n<=10000)(K:w.ownsRow (M+1) 313 2 x n y):TL prog 191 #[.pointer (some ⟨M,0,none⟩)] w λe w'=>e=.returned (.tuple #[])/\∃H,jW w' M code at' fuel h H/\w'.ownsRow (M+1) 313 2 H (n+1) (y++[Z Y 1,Z Y h])/\Below M w w':=by
 obtain⟨L,z,A,B,C⟩:=fa info_loop;go_enter func191,ntmps191;go_wp2_with fail;refine(nN M at' fuel h code x w hd (by omega)).mono ?_;rintro e r ⟨rfl,j,u⟩;have D:r.ownsRow (M+1) 313 2 x n y:=u.own K;have E:=j.lt;have T:=j.hh;have U:=j.ll;have V:=j.fz 29;have l:some M≠x.ownBlock:=λe=>by have:=(D.lt M e.symm).1;omega
 go_wp2_with fail
 go_region_law ((refine step_append_lies _ (by rfl) _ _ _ (by rfl) (M+1) 313 L _ 2 16 underlying221 z A B C rfl (by omega) x _ _ (by rfl) ((D.alloc _).drew) ⟨r.heap.size,0,none⟩ 1 1 [Z Y 1,Z Y (h:Int)] (by rfl) (by rfl) (Rh (cs := #[Z Y 1,Z Y (h:Int)]) (t:=313) (fr:=(0,0)) (ct r _)) (by simp[Value.oneCell']) (by omega) (by unfold maxLen;omega) (by omega) (by simp;omega) (r.heap.size+1) (by simp) ?_;intro N O F m b P I;have Q:F.cell? ⟨M,29,none⟩=some x:=(b.cell_far ⟨M,29,none⟩ (by simp;omega) l).trans ((j.alloc _).drew).ll;have R:F.frozen? ⟨M,29,none⟩=false:=(b.frozen_far ⟨M,29,none⟩ (by simp;omega) l).trans (((j.alloc _).drew).fz 29)))
 all_goals
  have G:=pB (((cj M r).alloc (o9 E) _).drew) ((j.alloc _).drew).lt ((D.alloc _).drew) b 29 (.slice (some ⟨N,0,none⟩) (n+1) O);exact cw (cu rfl _ _ _) rfl ⟨rfl,_,(((j.alloc _).drew).grown b l).PC _,((ey.refl M F).set _ _).own m,u.below.trans G⟩
end
section
open Go.RowKit
theorem B4(M l b:Nat)(j x:TK)(w:TJ)(hd:jW w M j l b 0 x)(u:TypeId)(p:TK)(he:w.cell? ⟨5,0,none⟩=some (.iface u p)):TL prog 191 #[.pointer (some ⟨M,0,none⟩)] w λe m=>e=.panicked [{ v := .iface u p,recovered:=false }]/\m=w:=by
 go_enter func191,ntmps191;go_wp2_with fail;refine(ma M l b j x w hd u p he).mono ?_;rintro e r ⟨rfl,rfl⟩;go_wp2;exact⟨rfl,rfl,rfl⟩
theorem yZ{w:TJ}{B e size n g cap:Nat}{ys:List TK}(h:w.ownsRow B e size (.slice (some ⟨g,0,none⟩) (n+1) cap) (n+1) ys):w.ownsRow B e size (.slice (some ⟨g,0,none⟩) n cap) n (ys.take (n*size)):=by
 obtain⟨r,b⟩:=h;rcases b with ⟨b,_⟩|⟨E,m,j,u,y,z,F,A,C,D⟩
 .cases b
 .cases u;have l:n*size<=(n+1)*size:=Tj _ (by omega);refine⟨by rw[A3,r];omega,.inr ⟨g,cap,j,rfl,y,z,by omega,A,C,?_⟩⟩;rw[<-D,DB,QD l]
theorem Nl(M m b h n g cap:Nat)(l:TK)(C:List TK)(w:TJ)(hd:jW w M l m b h (.slice (some ⟨g,0,none⟩) (n+1) cap))(U:n<=10000)(z:w.ownsRow (M+1) 313 2 (.slice (some ⟨g,0,none⟩) (n+1) cap) (n+1) (C++[Z Y 1,Z Y h]))(J:C.length=n*2):TL prog 193 #[.pointer (some ⟨M,0,none⟩)] w λe y=>e=.returned (.tuple #[])/\jW y M l m b h (.slice (some ⟨g,0,none⟩) n cap)/\y.ownsRow (M+1) 313 2 (.slice (some ⟨g,0,none⟩) n cap) n C/\Below M w y:=by
 have V:w.cell? ⟨g,n*2,none⟩=some (Z Y 1):=(z.cellAt (n*2) (by omega)).trans (by rw[cF (by omega),J];simp);have W:w.cell? ⟨g,n*2+1,none⟩=some (Z Y h):=(z.cellAt (n*2+1) (by omega)).trans (by rw[cF (by omega),J];simp);have X:=z.frozenAt (n*2);have D:M<g:=(z.lt g rfl).1;have N:M≠g:=by omega
 have O:g≠M:=by omega
 have K:n+1<=cap:=by
  rcases z.2 with ⟨P,_⟩|⟨q,L,Q,R,t,s,r⟩
  .cases P
  .cases R;exact r.1
 have S:(n:Int)<=(cap:Int):=by omega
 have T:n<=cap:=by omega
 have o:=hd.hh;have e2:=hd.ll;have e3:=hd.fz 29;have g0:((n+1:Nat):Int)-1=(n:Int):=by omega
 have g1:(0:Int)<=(n:Int):=iJ _;have g2:(n:Int)<((n+1:Nat):Int):=by omega
 have g3:(((h:Nat):Int) != ((h:Nat):Int))=false:=by simp
 have E:Hid (∀k,(λy=>jW y M l m b h (.slice (some ⟨g,0,none⟩) n cap)/\y.ownsRow (M+1) 313 2 (.slice (some ⟨g,0,none⟩) n cap) n C/\Below M w y) ((((w.drewN k).setCell ⟨g,n*2,none⟩ (Z Y 0)).setCell ⟨M,29,none⟩ (.slice (some ⟨g,0,none⟩) n cap)).drew)):=by
  intro k;have u:=below_drewN w k;have F:jW (w.drewN k) M l m b h (.slice (some ⟨g,0,none⟩) (n+1) cap):=hd.far (λj=>u.cell (p:=⟨M,j,none⟩) hd.lt) (λj=>u.frozen (p:=⟨M,j,none⟩) hd.lt);have G:=cW z u;have A:=G.stored (n*2) (Z Y 0);have H:=F.grown A.2 (by simp[Value.ownBlock];omega);have B:=yZ A.1;rw[TA _ _ (by omega),List.take_left' (by omega)] at B;have I:=((u.mono (o9 hd.lt)).setCell (p:=⟨g,n*2,none⟩) (o9 D) (Z Y 0)).setCell (p:=⟨M,29,none⟩) TG (.slice (some ⟨g,0,none⟩) n cap);exact⟨(H.PC _).drew,(((ey.refl M _).set _ _).own B).drew,I.drew⟩
 go_enter func193,ntmps193;go_wp2_with fail
 go_quiet (fail)
 go_wp2_with fail
 go_quiet (fail)
 go_wp2
 go_region
 generalize nq=n2 at *;exact cw (cu rfl _ _ _) rfl ⟨rfl,(cO E _).1,(cO E _).2.1,(cO E _).2.2⟩
end
section
open Go.RowKit
theorem LC(M l b h m n g cap:Nat)(j:TK)(r:List TK)(w:TJ)(hd:jW w M j l b h (.slice (some ⟨g,0,none⟩) (n+1) cap))(B:n<=10000)(y:w.ownsRow (M+1) 313 2 (.slice (some ⟨g,0,none⟩) (n+1) cap) (n+1) (r++[Z Y 1,Z Y m]))(z:r.length=n*2)(C:h≠m)(u:TypeId)(p:TK)(he:w.cell? ⟨5,0,none⟩=some (.iface u p)):TL prog 193 #[.pointer (some ⟨M,0,none⟩)] w λe A=>e=.panicked [{ v := .iface u p,recovered:=false }]/\TI w A:=by
 have D:w.cell? ⟨g,n*2+1,none⟩=some (Z Y m):=(y.cellAt (n*2+1) (by omega)).trans (by rw[cF (by omega),z];simp);have E:=hd.hh;have F:=hd.ll;have G:((n+1:Nat):Int)-1=(n:Int):=by omega
 have H:(0:Int)<=(n:Int):=iJ _;have I:(n:Int)<((n+1:Nat):Int):=by omega
 have J:(((h:Nat):Int) != ((m:Nat):Int))=true:=by rw[E8];omega
 go_enter func193,ntmps193;go_wp2_with fail
 go_quiet (fail)
 go_wp2_with fail
 go_quiet (fail)
 go_wp2;exact⟨rfl,rfl,below_drewN _ _⟩
theorem Da(R:Ending->TJ->Prop)(M:Nat)(w:TJ)(h:TL prog 191 #[.pointer (some ⟨M,0,none⟩)] w R)(j:∀e l,R e l->e=.returned (.tuple #[])\/∃v,e=.panicked [{ v:=v,recovered:=false }]):TL prog 190 #[.pointer (some ⟨M,0,none⟩)] w R:=by
 go_enter func190,ntmps190;go_wp2_with fail;refine h.mono ?_;intro e m b;rcases j e m b with rfl|⟨v,rfl⟩
 .go_wp2;exact cw (cu rfl _ _ _) rfl b
 .go_wp2;exact⟨rfl,b⟩
theorem RV(R:Ending->TJ->Prop)(M:Nat)(w:TJ)(h:TL prog 193 #[.pointer (some ⟨M,0,none⟩)] w R)(j:∀e l,R e l->e=.returned (.tuple #[])\/∃v,e=.panicked [{ v:=v,recovered:=false }]):TL prog 192 #[.pointer (some ⟨M,0,none⟩)] w R:=by
 go_enter func192,ntmps192;go_wp2_with fail;refine h.mono ?_;intro e m b;rcases j e m b with rfl|⟨v,rfl⟩
 .go_wp2;exact cw (cu rfl _ _ _) rfl b
 .go_wp2;exact⟨rfl,b⟩
end
end Go.Proofs.YtgkkdpegcieakaaGreatDoor
