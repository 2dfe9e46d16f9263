import Derived.Test.YtgkkdpegcieakaaGreatDoorCz02
set_option linter.unusedVariables false
set_option linter.unusedSimpArgs false
set_option maxRecDepth 100000
set_option maxHeartbeats 16000000
namespace Go.Proofs.YtgkkdpegcieakaaGreatDoor
open Go.Proofs.Tryz
open Value renaming int→Z
open IntKind renaming i64→Y
open Go renaming World→TJ,Value→TK,Calls→TL
section
open Go.RowKit
def xH(w:TJ)(p:Option Addr)(P:List (Option Sp.Ln)):Prop := ∀j (h:j<P.length),∃g,p=some ⟨g,0,none⟩/\g<w.heap.size/\w.cell? ⟨g,j*4,none⟩=some (Z Y (Sp.pk P[j]))/\w.cell? ⟨g,j*4+1,none⟩=some (Z .i32 (Sp.pa P[j]))/\w.cell? ⟨g,j*4+2,none⟩=some (Z .i32 (Sp.pb P[j]))/\w.cell? ⟨g,j*4+3,none⟩=some (Z Y (Sp.pn P[j]))
theorem xH.below{w w':TJ}{p:Option Addr}{P:List (Option Sp.Ln)}(h:xH w p P)(hb:TI w w'):xH w' p P:=λj l=>by
 obtain⟨g,e,b,m,r,u,y⟩:=h j l;have:=hb.size;exact⟨g,e,by omega,(hb.cell (p:=⟨g,_,none⟩) b).trans m,(hb.cell (p:=⟨g,_,none⟩) b).trans r,(hb.cell (p:=⟨g,_,none⟩) b).trans u,(hb.cell (p:=⟨g,_,none⟩) b).trans y⟩
theorem KF(P:List (Option Sp.Ln)):∀(k:Nat) (h:k<P.length),(gL P)[k*4]?=some (Z Y (Sp.pk P[k]))/\(gL P)[k*4+1]?=some (Z .i32 (Sp.pa P[k]))/\(gL P)[k*4+2]?=some (Z .i32 (Sp.pb P[k]))/\(gL P)[k*4+3]?=some (Z Y (Sp.pn P[k])):=by
 induction P with
 |nil=>intro k h;simp at h
 |cons l L b =>
  intro k h;cases k with
  |zero=>exact⟨rfl,rfl,rfl,rfl⟩
  |succ k =>
   have:=b k (by simpa using h);have e:gL (l::L)=kK l++gL L:=by simp[gL]
   rw[e];have j:(kK l).length=4:=rfl;rw[show (k+1)*4=4+k*4 by omega,show 4+k*4+1=4+(k*4+1) by omega,show 4+k*4+2=4+(k*4+2) by omega,show 4+k*4+3=4+(k*4+3) by omega];rw[cF (by omega),cF (by omega),cF (by omega),cF (by omega),j];simpa using this
theorem mi{w:TJ}{B:Nat}{v:TK}{P:List (Option Sp.Ln)}(h:w.ownsRow B 202 4 v P.length (gL P)):∃p b,v=.slice p P.length b/\xH w p P:=by
 obtain⟨p,b,u,m⟩:=dd h;refine⟨p,b,u,λk y=>?_⟩;obtain⟨z,A,C,D⟩:=KF P k y;obtain⟨g,r,_,E,F⟩:=m (k*4) (by omega);obtain⟨G,e,_,_,H⟩:=m (k*4+1) (by omega);obtain⟨I,j,_,_,J⟩:=m (k*4+2) (by omega);obtain⟨K,l,_,_,L⟩:=m (k*4+3) (by omega);have M:G=g:=by rw[r] at e;injection e with q;injection q with q;exact q.symm
 have N:I=g:=by rw[r] at j;injection j with q;injection q with q;exact q.symm
 have O:K=g:=by rw[r] at l;injection l with q;injection q with q;exact q.symm
 subst M N O;exact⟨_,r,E,F.trans z,H.trans A,J.trans C,L.trans D⟩
def Ju(P:List (Option Sp.Ln))(w:TJ)(e:Ending)(w':TJ):Prop:=TI w w'/\match Sp.gv P 0 [] with
  |.error k=>e=.returned (.tuple #[.pointer none,Z Y (k:Nat),.bool false])
  |.ok T=>e=.returned (.tuple #[.pointer (some ⟨w.heap.size,0,none⟩),Z Y 0,.bool true])/\oG w' (w.heap.size+1) w.heap.size T/\Sp.da T/\T.length<=P.length
theorem fM(p:Option Addr)(cap:Nat)(P:List (Option Sp.Ln))(w:TJ)(h:xH w p P)(U:P.length<=5000):TL prog 64 #[.slice p P.length cap] w (Ju P w):=by
 go_enter func64,ntmps64;go_wp2
 go_loopw [11] (λi wr=>∃(k:Nat) (T:Sp.Tb),k<=P.length/\T.length<=k/\i=Z Y k/\oG wr (w.heap.size+1) w.heap.size T/\Hid (Sp.da T)/\TI w wr/\w.heap.size+1<=wr.heap.size/\Hid (Sp.gv (P.drop k) k T=Sp.gv P 0 [])) (λi _=>P.length-(intOf i).toNat)
 case atStart=>exact⟨0,[],cy _,cy _,rfl,⟨.slice none 0 0,ct w _,fc _ _ _ _⟩,List.Pairwise.nil,TH.alloc TG _,by simp,rfl⟩
 case round =>
  obtain⟨k,T,V,L,rfl,b,C,l,W,E⟩:=hrel;by_cases m:k<P.length
  .obtain⟨g,rfl,M,X,q,t,s⟩:=(h.below l) k m;have j:=b.below ((cj wr.heap.size wr).alloc TG (.cells #[Z Y (Sp.pk P[k]),Z .i32 (Sp.pa P[k]),Z .i32 (Sp.pb P[k]),Z Y (Sp.pn P[k])] 202));have D:=l.alloc l.size (.cells #[Z Y (Sp.pk P[k]),Z .i32 (Sp.pa P[k]),Z .i32 (Sp.pb P[k]),Z Y (Sp.pn P[k])] 202);have u:=cP j;have y:=cP D;have G:=cP (λhe=>Sp.L1 m T (he:=he));have H:=cP (λhe ht=>Sp.It m T (he:=he) (ht:=ht));have I:=cP (λhe ht=>Sp.OQ m T (he:=he) (ht:=ht));clear j D b;generalize Sp.pk P[k]=K at *;generalize Sp.pa P[k]=A at *;generalize Sp.pb P[k]=o at *;generalize Sp.pn P[k]=N at *;have O:w.heap.size<wr.heap.size:=by omega
   by_cases F:K=1
   .subst F;cases hh:Sp.dw T A with
    |true =>
     have z:=cP hh;clear hh;go_wp2_with (go_at_call 102;go_must (refine(n5 w.heap.size (w.heap.size+1) T A N _ (cO u) (cO C) (by omega) (by simp;omega) (by omega)).mono ?_;rintro e Q ⟨r,rfl,B⟩;rw[cO z]));exact cr (v := .tuple #[.pointer none,Z Y k,.bool false]) (by simp[results,results64,go_sem]) rfl ⟨(cO y).trans r,by rw[<-cO E,(cO H) (by trivial) (cO z)]⟩
    |false =>
     have z:=cP hh;clear hh;go_wp2_with (go_at_call 102;go_must (refine(n5 w.heap.size (w.heap.size+1) T A N _ (cO u) (cO C) (by omega) (by simp;omega) (by omega)).mono ?_;rintro e Q ⟨r,rfl,B⟩;rw[cO z]));have J:=r.size;simp at J;rw[cO z] at B;go_roundw
     case rel =>
      exact⟨k+1,Sp.gI T A N,by omega,by rw[Sp.iS];omega,by go_num,B,Sp.iq (cO C) (cO z),(cO y).trans r,by omega,by show _=_;rw[<-cO E];exact((cO I) (by trivial) (cO z)).symm⟩
     case measure=>simp[intOf];omega
   .have R:(K == 1)=false:=cC.2 F;have S:=cP F;clear F;go_wp2;go_roundw
    case rel =>
     exact⟨k+1,T,by omega,by omega,by go_num,cO u,C,cO y,by simp;omega,by show _=_;rw[<-cO E];exact((cO G) (cO S)).symm⟩
    case measure=>simp[intOf];omega
  .go_wp2;refine cr (v := .tuple #[.pointer (some ⟨w.heap.size,0,none⟩),Z Y 0,.bool true]) (by simp[results,results64,go_sem]) rfl ⟨l,?_⟩;rw[<-cO E,Sp.Oy (by omega) T];exact⟨rfl,b,cO C,by omega⟩
end
section
open Go.RowKit
def L7(P:List (Option Sp.Ln))(T:Sp.Tb)(w:TJ)(e:Ending)(w':TJ):Prop:=TI w w'/\match Sp.ge T P 0 [] with
  |.error k=>e=.returned (.tuple #[.slice none 0 0,Z Y (k:Nat),.bool false])
  |.ok E=>∃v,e=.returned (.tuple #[v,Z Y 0,.bool true])/\w'.ownsRow w.heap.size 162 3 v E.length (dh E)/\E.length<=P.length
theorem iW(p:Option Addr)(cap t B:Nat)(P:List (Option Sp.Ln))(T:Sp.Tb)(w:TJ)(h:xH w p P)(hl:P.length<=5000)(hT:oG w B t T)(hS:Sp.da T)(H:T.length<=100000):TL prog 65 #[.slice p P.length cap,.pointer (some ⟨t,0,none⟩)] w (L7 P T w):=by
 obtain⟨i0,hi,o,aa,ab⟩:=fa info_edge;have HT:=cP hT;have HS:=cP hS;clear hT hS;go_enter func65,ntmps65;go_wp2
 go_loopw [7,16] (λv i wr=>∃(k:Nat) (E:List Sp.Ed),k<=P.length/\E.length<=k/\i=Z Y k/\wr.ownsRow w.heap.size 162 3 v E.length (dh E)/\TI w wr/\Hid (Sp.ge T (P.drop k) k E=Sp.ge T P 0 [])) (λ_ i _=>P.length-(intOf i).toNat)
 case atStart=>exact⟨0,[],cy _,cy _,rfl,fc _ _ _ _,cj _ _,rfl⟩
 case round =>
  obtain⟨k,E,hk,ai,rfl,ho,y,I⟩:=hrel;by_cases z:k<P.length
  .obtain⟨g,rfl,aj,c0,c1,c2,c3⟩:=(h.below y) k z;have J:=y.alloc y.size (.cells #[Z Y (Sp.pk P[k]),Z .i32 (Sp.pa P[k]),Z .i32 (Sp.pb P[k]),Z Y (Sp.pn P[k])] 202);have L:=ho.alloc (.cells #[Z Y (Sp.pk P[k]),Z .i32 (Sp.pa P[k]),Z .i32 (Sp.pb P[k]),Z Y (Sp.pn P[k])] 202);have C:=cP J;have M:=cP L;have ad:=cP (λhe=>Sp.KW (T:=T) z E (he:=he));have O:=cP (λhe ht=>Sp.IK (T:=T) z E (he:=he) (ht:=ht));have ae:=cP (λhe ha hb=>Sp.MQ (T:=T) z E (he:=he) (ha:=ha) (hb:=hb));clear J L ho;generalize Sp.pk P[k]=K at *;generalize Sp.pa P[k]=A at *;generalize Sp.pb P[k]=q at *;generalize Sp.pn P[k]=N at *;by_cases s:K=2
   .subst s;have ak:((2:Int) != 2)=false:=by decide
    go_wp2_with fail;refine(nQ t B T A _ ((cO HT).below (cO C)) (cO HS) H).mono ?_;rintro e w1 ⟨rfl,b⟩;have y0:=b.cell (p:=⟨wr.heap.size,0,none⟩) (by simp);have y1:=b.cell (p:=⟨wr.heap.size,1,none⟩) (by simp);have y2:=b.cell (p:=⟨wr.heap.size,2,none⟩) (by simp);have y3:=b.cell (p:=⟨wr.heap.size,3,none⟩) (by simp);simp at y0 y1 y2 y3;have Q:=(cO C).trans (b.mono (cO C).size);have F:=cP Q;have af:=cP (cW (cO M) b);have D:wr.heap.size<w1.heap.size:=by have:=b.size;simp at this;omega
    clear Q b;generalize R:Sp.dw T A=ta;have HA:=cP R;clear R;go_wp2_with fail;refine(nQ t B T q _ ((cO HT).below (cO F)) (cO HS) H).mono ?_;rintro e w2 ⟨rfl,l⟩;have u0:=(l.cell (p:=⟨wr.heap.size,0,none⟩) D).trans y0;have u1:=(l.cell (p:=⟨wr.heap.size,1,none⟩) D).trans y1;have u2:=(l.cell (p:=⟨wr.heap.size,2,none⟩) D).trans y2;have u3:=(l.cell (p:=⟨wr.heap.size,3,none⟩) D).trans y3;have m:=(cO F).trans (l.mono (cO F).size);have G:=cW (cO af) l;have ag:=m.size;clear l y0 y1 y2 y3;generalize S:Sp.dw T q=tb;have U:=cP S;clear S;cases ta with
    |false =>
     cases tb with
     |_ =>
      go_wp2;exact cr (v := .tuple #[.slice none 0 0,Z Y k,.bool false]) (by simp[results,results65,go_sem]) rfl ⟨m,by rw[<-cO I,(cO O) (by trivial) (λV=>by rw[cO HA] at V;cases V.1)]⟩
    |true =>
     cases tb with
     |false =>
      go_wp2;exact cr (v := .tuple #[.slice none 0 0,Z Y k,.bool false]) (by simp[results,results65,go_sem]) rfl ⟨m,by rw[<-cO I,(cO O) (by trivial) (λV=>by rw[cO U] at V;cases V.2)]⟩
     |true =>
      go_wp2_with (first
       |(at_builtin;go_must (refine LP _ rfl (.tmp 45) (.tmp 51) 66 rfl w.heap.size 162 i0 _ 3 24 underlying66 hi o aa ab rfl (by decide) _ _ _ rfl (G.alloc _) ⟨w2.heap.size,0,none⟩ 1 1 [Z Y (Sp.dm T A:Nat),Z Y (Sp.dm T q:Nat),Z Y N] rfl rfl ?c1 ?c2 ?c3 ?c4 ?c5 ?_))
       |go_in)
      case c1 =>
       intro j u r
       match j,r with
       |0,r=>simp at r;subst r;simp[Addr.add]
       |1,r=>simp at r;subst r;simp[Addr.add]
       |2,r=>simp at r;subst r;simp[Addr.add]
      case c2=>intro u hu;simp at hu;rcases hu with rfl | rfl | rfl <;> rfl
      case c3=>unfold maxLen;omega
      case c4=>omega
      case c5=>simp;omega
      intro v3 w3 ah W _;have X:=rW (ys:=[]) (v':=v3) (by simp;omega) (G.alloc _) (m.alloc ag _) W;clear W G m;go_wp2;go_roundw
      case rel =>
       exact⟨k+1,E++[⟨Sp.dm T A,Sp.dm T q,N⟩],by omega,by simp;omega,by go_num,by simpa [dh,LV] using ah,X,by
        show _=_;rw[<-cO I];exact((cO ae) (by trivial) (cO HA) (cO U)).symm⟩
      case measure=>simp[intOf];omega
   .have an:(K != 2)=true:=by rw[E8];exact s
    have HK:=cP s;clear s;go_wp2;go_roundw
    case rel =>
     exact⟨k+1,E,by omega,by omega,by go_num,cO M,cO C,by show _=_;rw[<-cO I];exact((cO ad) (cO HK)).symm⟩
    case measure=>simp[intOf];omega
  .go_wp2;refine cr (v := .tuple #[u7,Z Y 0,.bool true]) (by simp[results,results65,go_sem]) rfl ⟨y,?_⟩;rw[<-cO I,Sp.NY (by omega) E];exact⟨_,rfl,ho,by omega⟩
end
section
open Go.RowKit
theorem Sp.GQ(s:TM)(i:Nat)(h:¬i<s.size):Sp.bt s i=0:=by
 unfold Sp.bt;cases s with | mk d =>
 show (d[i]!).toNat=0
 rw[getElem!_neg d i h];rfl
theorem Sp.yx(s:TM)(k p:Nat)(b:k<=s.size):Sp.bt (s.extract k s.size) p=Sp.bt s (k+p):=by
 by_cases h:k+p<s.size
 .exact Sp.Aj s k s.size p TG h
 .rw[Sp.GQ _ _ (by simp;omega),Sp.GQ _ _ (by omega)]
theorem Sp.L5(s:TM)(k:Nat)(e:k<s.size):Utf8.decode (s.extract k s.size) 0=Utf8.decode s k:=by
 rw[Sp.dec,Sp.dec];have b:(s.extract k s.size).size-0=s.size-k:=by simp
 rw[b,Sp.yx s k _ (by omega),Sp.yx s k _ (by omega),Sp.yx s k _ (by omega),Sp.yx s k _ (by omega)];simp only[ub,eW]
theorem Sp.Ni(s:TM)(k:Nat)(b:k<s.size):Lib.decodeGo (s.extract k s.size)=Utf8.decode s k:=by
 unfold Lib.decodeGo;rw[cd (by simp;omega),Sp.L5 s k b]
theorem eD{w w':TJ}(h:Lib.Utf8Tabs 3 4 w)(hb:TI w w'):Lib.Utf8Tabs 3 4 w':=by
 obtain⟨e,b⟩:=h;refine⟨λc j=>?_,λi hi=>⟨?_,?_⟩⟩
 .rw[hb.cell (cE w _ (e c j))];exact e c j
 .rw[hb.cell (cE w _ (b i hi).1)];exact(b i hi).1
 .rw[hb.cell (cE w _ (b i hi).2)];exact(b i hi).2
def IF(s:TM)(w:TJ)(e:Ending)(w':TJ):Prop:=TI w w'/\match Sp.bad s with
  |some i=>e=.returned (.tuple #[Z Y (i:Nat),.bool true])
  |none=>e=.returned (.tuple #[Z Y 0,.bool false])
theorem fN(s:TM)(w:TJ)(S:s.size<=4000)(K:Lib.Utf8Tabs 3 4 w):TL prog 62 #[.string s] w (IF s w):=by
 have L:=cP K;clear K;go_enter func62,ntmps62;go_wp2
 go_loopw [2] (λ_ wr=>∃(k f:Nat),k<=s.size/\s.size-k<=f/\wr.heap[w.heap.size]?=some (.stringIter s k)/\TI w wr/\Hid (Sp.gq s f k=Sp.bad s)) (λ_ wr=>s.size-wr.iterPos w.heap.size)
 case atStart=>exact⟨0,s.size,cy _,by omega,World.iter_heap w s 0,TH.alloc TG _,rfl⟩
 case round =>
  obtain⟨k,f,T,U,hit,z,I⟩:=hrel;have m:=iterPos_of hit;by_cases l:k<s.size
  .obtain⟨f,rfl⟩:∃g,f=g+1:=⟨f-1,by omega⟩
   have E:=Sp.iO l;have M:=cP (Sp.Ni s k l);have r:∀A,(Instr.next (.pointer (some ⟨w.heap.size,0,none⟩)) true A).run prog wr=_:=λA=>Lib.run_next_any_at wr w.heap.size s k A hit l
   have j:=Lib.iterAt_heap wr w.heap.size s k (k+(Utf8.decode s k).2) hit;have b:=Lib.below_iterAt z (k:=w.heap.size) TG s (k+(Utf8.decode s k).2);obtain⟨N,F⟩:∃N,N=wr.iterAt w.heap.size s (k+(Utf8.decode s k).2):=⟨_,rfl⟩
   rw[<-F] at r j b;clear F hit z;have V:s.extract k s.size=s.extract k s.size:=rfl;by_cases hd:Utf8.decode s k=(65533,1)
   .have C:Hid (Sp.bad s=some k):=by
     show _=_;rw[<-I.out];simp only[Sp.gq];rw[cg l,cg hd]
    have O:=cP hd;rw[hd] at r;have B:=cP (eD (cO L) b);clear hd E;go_wp2_with fail;refine(Tryz.utf8_DecodeRuneInString _ _ (cO B)).mono ?_;rintro e P ⟨rfl,u⟩;rw[cO M,cO O];go_wp2;exact cr (v := .tuple #[Z Y k,.bool true]) (by simp[results,results62,go_sem]) rfl ⟨b.trans (u.mono b.size),by rw[cO C]⟩
   .have C:Hid (Sp.gq s f (k+(Utf8.decode s k).2)=Sp.bad s):=by
     show _=_;rw[<-I.out];simp only[Sp.gq];rw[cg l,cd hd]
    by_cases G:(Utf8.decode s k).1=65533
    .have Q:¬(Utf8.decode s k).2=1:=λh=>hd (Prod.ext G h)
     have B:=cP (eD (cO L) b);clear hd;generalize Utf8.decode s k=D at *;obtain⟨R,H⟩:=D;simp only at G Q E j r;subst G;have J:(((H:Nat):Int) == 1)=false:=cC.2 (by omega);go_wp2_with fail;refine(Tryz.utf8_DecodeRuneInString _ _ (cO B)).mono ?_;rintro e P ⟨rfl,u⟩;rw[cO M];have y:=(u.block _ (ps j)).trans j;go_wp2;go_roundw
     case rel=>exact⟨k+H,f,by omega,by omega,y,b.trans (u.mono b.size),C⟩
     case measure=>rw[iterPos_of y,m];omega
    .have J:((((Utf8.decode s k).1:Nat):Int) != 65533)=true:=by rw[E8];omega
     clear hd G;generalize Utf8.decode s k=D at *;obtain⟨R,H⟩:=D;go_wp2;go_roundw
     case rel=>exact⟨k+H,f,by omega,by omega,j,b,C⟩
     case measure=>rw[iterPos_of j,m];omega
  .have C:Hid (Sp.bad s=none):=by
    show _=_;rw[<-I.out]
    cases f with
    |zero=>rfl
    |succ f=>simp only[Sp.gq];rw[cd l]
   have r:∀A,(Instr.next (.pointer (some ⟨w.heap.size,0,none⟩)) true A).run prog wr=_:=λA=>Lib.run_next_end_at wr w.heap.size s k A hit l
   go_wp2;exact cr (v := .tuple #[Z Y 0,.bool false]) (by simp[results,results62,go_sem]) rfl ⟨z,by rw[cO C]⟩
end
end Go.Proofs.YtgkkdpegcieakaaGreatDoor
