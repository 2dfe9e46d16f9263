import Derived.Test.YtgkkdpegcieakaaGreatDoorCw02
set_option linter.all false
set_option maxRecDepth 100000
set_option maxHeartbeats 16000000
namespace Go.Proofs.YtgkkdpegcieakaaGreatDoor
open Go.Proofs.Tryz
open Value renaming int→Z,slice→J,pointer→WV,bool→WW,tuple→WX
open Ending renaming returned→WZ
open Option renaming none→U,some→S
open Bool renaming true→W8,false→W9
open List renaming length→Xg
open _root_.Array renaming size→K
open World renaming heap→E
open IntKind renaming i64→Y
open Go renaming World→WR,Value→WS,Calls→WT
open Go.RowKit
section
def yk(w:WR)(p:Option Addr)(P:List (Option Sp.Ln)):Prop := ∀j (h:j<Xg P),∃g,p=S ⟨g,0,U⟩/\g<K (E w)/\w.cell? ⟨g,j*4,U⟩=S (Z Y (Sp.pk P[j]))/\w.cell? ⟨g,j*4+1,U⟩=S (Z .i32 (Sp.pa P[j]))/\w.cell? ⟨g,j*4+2,U⟩=S (Z .i32 (Sp.pb P[j]))/\w.cell? ⟨g,j*4+3,U⟩=S (Z Y (Sp.pn P[j]))
theorem yk.below{w w':WR}{p:Option Addr}{P:List (Option Sp.Ln)}(h:yk w p P)(hb:WQ w w'):yk w' p P:=λj l=>by
 obtain⟨g,e,b,m,r,u,y⟩:=h j l;have:=hb.size;exact⟨g,e,by omega,(hb.cell (p:=⟨g,_,U⟩) b).trans m,(hb.cell (p:=⟨g,_,U⟩) b).trans r,(hb.cell (p:=⟨g,_,U⟩) b).trans u,(hb.cell (p:=⟨g,_,U⟩) b).trans y⟩
theorem Mz(P:List (Option Sp.Ln)):∀(k:Nat) (h:k<Xg P),(gO P)[k*4]?=S (Z Y (Sp.pk P[k]))/\(gO P)[k*4+1]?=S (Z .i32 (Sp.pa P[k]))/\(gO P)[k*4+2]?=S (Z .i32 (Sp.pb P[k]))/\(gO P)[k*4+3]?=S (Z Y (Sp.pn P[k])):=by
 induction P with
 |nil=>intro k h;simp at h
 |cons l L b =>
  intro k h;cases k with
  |zero=>exact⟨rfl,rfl,rfl,rfl⟩
  |succ k =>
   have:=b k (by simpa using h);have e:gO (l::L)=kL l++gO L:=by simp[gO]
   rw[e];have j:(kL l).length=4:=rfl;rw[show (k+1)*4=4+k*4 by omega,show 4+k*4+1=4+(k*4+1) by omega,show 4+k*4+2=4+(k*4+2) by omega,show 4+k*4+3=4+(k*4+3) by omega];rw[Ul (by omega),Ul (by omega),Ul (by omega),Ul (by omega),j];simpa using this
theorem mr{w:WR}{B:Nat}{v:WS}{P:List (Option Sp.Ln)}(h:w.ownsRow B 202 4 v (Xg P) (gO P)):∃p b,v=J p (Xg P) b/\yk w p P:=by
 obtain⟨p,b,u,m⟩:=dm h;refine⟨p,b,u,λk y=>?_⟩;obtain⟨z,A,C,F⟩:=Mz P k y;obtain⟨g,r,_,G,I⟩:=m (k*4) (by omega);obtain⟨L,e,_,_,M⟩:=m (k*4+1) (by omega);obtain⟨N,j,_,_,Q⟩:=m (k*4+2) (by omega);obtain⟨R,l,_,_,T⟩:=m (k*4+3) (by omega);have V:L=g:=by rw[r] at e;injection e with q;injection q with q;exact q.symm
 have W:N=g:=by rw[r] at j;injection j with q;injection q with q;exact q.symm
 have X:R=g:=by rw[r] at l;injection l with q;injection q with q;exact q.symm
 subst V W X;exact⟨_,r,G,I.trans z,M.trans A,Q.trans C,T.trans F⟩
def J0(P:List (Option Sp.Ln))(w:WR)(e:Ending)(w':WR):Prop:=WQ w w'/\match Sp.gv P 0 [] with
  |.error k=>e=WZ (WX #[WV U,Z Y (k:Nat),WW W9])
  |.ok T=>e=WZ (WX #[WV (S ⟨K (E w),0,U⟩),Z Y 0,WW W8])/\oB w' (K (E w)+1) (K (E w)) T/\Sp.di T/\(Xg T)<=Xg P
theorem fM(p:Option Addr)(cap:Nat)(P:List (Option Sp.Ln))(w:WR)(h:yk w p P)(hl:Xg P<=5000):WT prog 64 #[J p (Xg P) cap] w (J0 P w):=by
 go_enter func64,ntmps64;go_wp2
 go_loopw [11] (λi wr=>∃(k:Nat) (T:Sp.Tb),k<=Xg P/\(Xg T)<=k/\i=Z Y k/\oB wr (K (E w)+1) (K (E w)) T/\Hid (Sp.di T)/\WQ w wr/\(K (E w))+1<=K (E wr)/\Hid (Sp.gv (P.drop k) k T=Sp.gv P 0 [])) (λi _=>Xg P-(intOf i).toNat)
 case atStart=>exact⟨0,[],Ud _,Ud _,rfl,⟨J U 0 0,T9 w _,Uw _ _ _ _⟩,List.Pairwise.nil,WO.alloc WN _,by simp,rfl⟩
 case round =>
  obtain⟨k,T,hk,W,rfl,j,F,m,hz,I⟩:=hrel;by_cases r:k<Xg P
  .obtain⟨g,rfl,X,c0,c1,c2,c3⟩:=(h.below m) k r;have l:=j.below ((T4 (K (E wr)) wr).alloc WN (.cells #[Z Y (Sp.pk P[k]),Z .i32 (Sp.pa P[k]),Z .i32 (Sp.pb P[k]),Z Y (Sp.pn P[k])] 202));have G:=m.alloc m.size (.cells #[Z Y (Sp.pk P[k]),Z .i32 (Sp.pa P[k]),Z .i32 (Sp.pb P[k]),Z Y (Sp.pn P[k])] 202);have y:=cT l;have z:=cT G;have M:=cT (λhe=>Sp.Nf r T (he:=he));have Q:=cT (λhe ht=>Sp.IQ r T (he:=he) (ht:=ht));have R:=cT (λhe ht=>Sp.Pl r T (he:=he) (ht:=ht));clear l G j;generalize Sp.pk P[k]=b at *;generalize Sp.pa P[k]=A at *;generalize Sp.pb P[k]=Bb at *;generalize Sp.pn P[k]=N at *;have q:K (E w)<K (E wr):=by omega
   by_cases L:b=1
   .subst L;cases hh:Sp.dF T A with
    |true =>
     have B:=cT hh;clear hh;go_wp2_with (go_at_call 102;go_must (refine(n8 (K (E w)) (K (E w)+1) T A N _ (cS y) (cS F) (by omega) (by simp;omega) (by omega)).mono ?_;rintro e t ⟨u,rfl,C⟩;rw[cS B]));exact T8 (v := WX #[WV U,Z Y k,WW W9]) (by simp[results,results64,go_sem]) O ⟨(cS z).trans u,by rw[<-cS I,(cS Q) (by trivial) (cS B)]⟩
    |false =>
     have B:=cT hh;clear hh;go_wp2_with (go_at_call 102;go_must (refine(n8 (K (E w)) (K (E w)+1) T A N _ (cS y) (cS F) (by omega) (by simp;omega) (by omega)).mono ?_;rintro e t ⟨u,rfl,C⟩;rw[cS B]));have V:=u.size;simp at V;rw[cS B] at C;go_roundw
     case rel =>
      exact⟨k+1,Sp.gJ T A N,by omega,by rw[Sp.iP];omega,by go_num,C,Sp.iq (cS F) (cS B),(cS z).trans u,by omega,by show _=_;rw[<-cS I];exact((cS R) (by trivial) (cS B)).symm⟩
     case measure=>simp[intOf];omega
   .have s:(b == 1)=W9:=Uh.2 L;have o:=cT L;clear L;go_wp2;go_roundw
    case rel =>
     exact⟨k+1,T,by omega,by omega,by go_num,cS y,F,cS z,by simp;omega,by show _=_;rw[<-cS I];exact((cS M) (cS o)).symm⟩
    case measure=>simp[intOf];omega
  .go_wp2;refine T8 (v := WX #[WV (S ⟨K (E w),0,U⟩),Z Y 0,WW W8]) (by simp[results,results64,go_sem]) O ⟨m,?_⟩;rw[<-cS I,Sp.Qw (by omega) T];exact⟨O,j,cS F,by omega⟩
end
section
def NR(P:List (Option Sp.Ln))(T:Sp.Tb)(w:WR)(e:Ending)(w':WR):Prop:=WQ w w'/\match Sp.ge T P 0 [] with
  |.error k=>e=WZ (WX #[J U 0 0,Z Y (k:Nat),WW W9])
  |.ok b=>∃v,e=WZ (WX #[v,Z Y 0,WW W8])/\w'.ownsRow (K (E w)) 162 3 v (Xg b) (dp b)/\(Xg b)<=Xg P
theorem iU(p:Option Addr)(cap t B:Nat)(P:List (Option Sp.Ln))(T:Sp.Tb)(w:WR)(h:yk w p P)(hl:Xg P<=5000)(hT:oB w B t T)(hS:Sp.di T)(Q:Xg T<=100000):WT prog 65 #[J p (Xg P) cap,WV (S ⟨t,0,U⟩)] w (NR P T w):=by
 obtain⟨i0,hi,af,ag,ah⟩:=UB info_edge;have HT:=cT hT;have HS:=cT hS;clear hT hS;go_enter func65,ntmps65;go_wp2
 go_loopw [7,16] (λv i wr=>∃(k:Nat) (b:List Sp.Ed),k<=Xg P/\(Xg b)<=k/\i=Z Y k/\wr.ownsRow (K (E w)) 162 3 v (Xg b) (dp b)/\WQ w wr/\Hid (Sp.ge T (P.drop k) k b=Sp.ge T P 0 [])) (λ_ i _=>Xg P-(intOf i).toNat)
 case atStart=>exact⟨0,[],Ud _,Ud _,rfl,Uw _ _ _ _,T4 _ _,rfl⟩
 case round =>
  obtain⟨k,b,hk,aq,rfl,ho,C,R⟩:=hrel;by_cases F:k<Xg P
  .obtain⟨g,rfl,ar,c0,c1,c2,c3⟩:=(h.below C) k F;have V:=C.alloc C.size (.cells #[Z Y (Sp.pk P[k]),Z .i32 (Sp.pa P[k]),Z .i32 (Sp.pb P[k]),Z Y (Sp.pn P[k])] 202);have W:=ho.alloc (.cells #[Z Y (Sp.pk P[k]),Z .i32 (Sp.pa P[k]),Z .i32 (Sp.pb P[k]),Z Y (Sp.pn P[k])] 202);have G:=cT V;have X:=cT W;have ai:=cT (λhe=>Sp.N5 (T:=T) F b (he:=he));have q:=cT (λhe ht=>Sp.JZ (T:=T) F b (he:=he) (ht:=ht));have aj:=cT (λhe ha hb=>Sp.Rb (T:=T) F b (he:=he) (ha:=ha) (hb:=hb));clear V W ho;generalize Sp.pk P[k]=l at *;generalize Sp.pa P[k]=A at *;generalize Sp.pb P[k]=Bb at *;generalize Sp.pn P[k]=N at *;by_cases hK:l=2
   .subst hK;have au:((2:Int) != 2)=W9:=by decide
    go_wp2_with fail;refine(nV t B T A _ ((cS HT).below (cS G)) (cS HS) Q).mono ?_;rintro e w1 ⟨rfl,m⟩;have y0:=m.cell (p:=⟨K (E wr),0,U⟩) (by simp);have y1:=m.cell (p:=⟨K (E wr),1,U⟩) (by simp);have y2:=m.cell (p:=⟨K (E wr),2,U⟩) (by simp);have y3:=m.cell (p:=⟨K (E wr),3,U⟩) (by simp);simp at y0 y1 y2 y3;have s:=(cS G).trans (m.mono (cS G).size);have L:=cT s;have ak:=cT (dd (cS X) m);have I:K (E wr)<K (E w1):=by have:=m.size;simp at this;omega
    clear s m;generalize o:Sp.dF T A=ta;have HA:=cT o;clear o;go_wp2_with fail;refine(nV t B T Bb _ ((cS HT).below (cS L)) (cS HS) Q).mono ?_;rintro e w2 ⟨rfl,r⟩;have u0:=(r.cell (p:=⟨K (E wr),0,U⟩) I).trans y0;have u1:=(r.cell (p:=⟨K (E wr),1,U⟩) I).trans y1;have u2:=(r.cell (p:=⟨K (E wr),2,U⟩) I).trans y2;have u3:=(r.cell (p:=⟨K (E wr),3,U⟩) I).trans y3;have y:=(cS L).trans (r.mono (cS L).size);have M:=dd (cS ak) r;have an:=y.size;clear r y0 y1 y2 y3;generalize aa:Sp.dF T Bb=tb;have ab:=cT aa;clear aa;cases ta with
    |false =>
     cases tb with
     |_ =>
      go_wp2;exact T8 (v := WX #[J U 0 0,Z Y k,WW W9]) (by simp[results,results65,go_sem]) O ⟨y,by rw[<-cS R,(cS q) (by trivial) (λhq=>by rw[cS HA] at hq;cases hq.1)]⟩
    |true =>
     cases tb with
     |false =>
      go_wp2;exact T8 (v := WX #[J U 0 0,Z Y k,WW W9]) (by simp[results,results65,go_sem]) O ⟨y,by rw[<-cS R,(cS q) (by trivial) (λhq=>by rw[cS ab] at hq;cases hq.2)]⟩
     |true =>
      go_wp2_with (first
       | (at_builtin;go_must (refine VZ _ O (.tmp 45) (.tmp 51) 66 O (K (E w)) 162 i0 _ 3 24 underlying66 hi af ag ah O (by decide) _ _ _ O (M.alloc _) ⟨K (E w2),0,U⟩ 1 1 [Z Y (Sp.dw T A:Nat),Z Y (Sp.dw T Bb:Nat),Z Y N] O O ?c1 ?c2 ?c3 ?c4 ?c5 ?_))
       |go_in)
      case c1 =>
       intro j u z
       match j,z with
       |0,z=>simp at z;subst z;simp[Addr.add]
       |1,z=>simp at z;subst z;simp[Addr.add]
       |2,z=>simp at z;subst z;simp[Addr.add]
      case c2=>intro u hu;simp at hu;rcases hu with rfl | rfl | rfl <;> rfl
      case c3=>unfold maxLen;omega
      case c4=>omega
      case c5=>simp;omega
      intro v3 w3 ao ad _;have ae:=qM (ys:=[]) (v':=v3) (by simp;omega) (M.alloc _) (y.alloc an _) ad;clear ad M y;go_wp2;go_roundw
      case rel =>
       exact⟨k+1,b++[⟨Sp.dw T A,Sp.dw T Bb,N⟩],by omega,by simp;omega,by go_num,by simpa [dp,V0] using ao,ae,by
        show _=_;rw[<-cS R];exact((cS aj) (by trivial) (cS HA) (cS ab)).symm⟩
      case measure=>simp[intOf];omega
   .have av:(l != 2)=W8:=by rw[VH];exact hK
    have HK:=cT hK;clear hK;go_wp2;go_roundw
    case rel =>
     exact⟨k+1,b,by omega,by omega,by go_num,cS X,cS G,by show _=_;rw[<-cS R];exact((cS ai) (cS HK)).symm⟩
    case measure=>simp[intOf];omega
  .go_wp2;refine T8 (v := WX #[u7,Z Y 0,WW W8]) (by simp[results,results65,go_sem]) O ⟨C,?_⟩;rw[<-cS R,Sp.Qe (by omega) b];exact⟨_,O,ho,by omega⟩
end
section
theorem Sp.KQ(s:WU)(i:Nat)(h:¬i<s.size):Sp.bt s i=0:=by
 unfold Sp.bt;cases s with | mk d =>
 show (d[i]!).toNat=0
 rw[getElem!_neg d i h];rfl
theorem Sp.zK(s:WU)(k p:Nat)(b:k<=s.size):Sp.bt (s.extract k s.size) p=Sp.bt s (k+p):=by
 by_cases h:k+p<s.size
 .exact Sp.AZ s k s.size p WN h
 .rw[Sp.KQ _ _ (by simp;omega),Sp.KQ _ _ (by omega)]
theorem Sp.Nd(s:WU)(k:Nat)(e:k<s.size):Utf8.decode (s.extract k s.size) 0=Utf8.decode s k:=by
 rw[Sp.dec,Sp.dec];have b:(s.extract k s.size).size-0=s.size-k:=by simp
 rw[b,Sp.zK s k _ (by omega),Sp.zK s k _ (by omega),Sp.zK s k _ (by omega),Sp.zK s k _ (by omega)];simp only[U9,UA]
theorem Sp.QG(s:WU)(k:Nat)(b:k<s.size):Lib.decodeGo (s.extract k s.size)=Utf8.decode s k:=by
 unfold Lib.decodeGo;rw[TZ (by simp;omega),Sp.Nd s k b]
theorem eM{w w':WR}(h:Lib.Utf8Tabs 3 4 w)(hb:WQ w w'):Lib.Utf8Tabs 3 4 w':=by
 obtain⟨e,b⟩:=h;refine⟨λc j=>?_,λi hi=>⟨?_,?_⟩⟩
 .rw[hb.cell (Ui w _ (e c j))];exact e c j
 .rw[hb.cell (Ui w _ (b i hi).1)];exact(b i hi).1
 .rw[hb.cell (Ui w _ (b i hi).2)];exact(b i hi).2
def Ks(s:WU)(w:WR)(e:Ending)(w':WR):Prop:=WQ w w'/\match Sp.bad s with
  |some i=>e=WZ (WX #[Z Y (i:Nat),WW W8])
  |none=>e=WZ (WX #[Z Y 0,WW W9])
theorem fP(s:WU)(w:WR)(p:s.size<=4000)(Q:Lib.Utf8Tabs 3 4 w):WT prog 62 #[.string s] w (Ks s w):=by
 have R:=cT Q;clear Q;go_enter func62,ntmps62;go_wp2
 go_loopw [2] (λ_ wr=>∃(k f:Nat),k<=s.size/\s.size-k<=f/\wr.heap[K (E w)]?=S (.stringIter s k)/\WQ w wr/\Hid (Sp.gu s f k=Sp.bad s)) (λ_ wr=>s.size-wr.iterPos (K (E w)))
 case atStart=>exact⟨0,s.size,Ud _,by omega,World.iter_heap w s 0,WO.alloc WN _,rfl⟩
 case round =>
  obtain⟨k,f,o,hf,hit,A,N⟩:=hrel;have r:=iterPos_of hit;by_cases m:k<s.size
  .obtain⟨f,rfl⟩:∃g,f=g+1:=⟨f-1,by omega⟩
   have G:=Sp.iL m;have T:=cT (Sp.QG s k m);have u:∀B,(Instr.next (WV (S ⟨K (E w),0,U⟩)) W8 B).run prog wr=_:=λB=>Lib.run_next_any_at wr (K (E w)) s k B hit m
   have l:=Lib.iterAt_heap wr (K (E w)) s k (k+(Utf8.decode s k).2) hit;have j:=Lib.below_iterAt A (k:=K (E w)) WN s (k+(Utf8.decode s k).2);obtain⟨V,I⟩:∃V,V=wr.iterAt (K (E w)) s (k+(Utf8.decode s k).2):=⟨_,rfl⟩
   rw[<-I] at u l j;clear I hit A;have hx:s.extract k s.size=s.extract k s.size:=rfl;by_cases hd:Utf8.decode s k=(65533,1)
   .have F:Hid (Sp.bad s=S k):=by
     show _=_;rw[<-N.out];simp only[Sp.gu];rw[T0 m,T0 hd]
    have W:=cT hd;rw[hd] at u;have C:=cT (eM (cS R) j);clear hd G;go_wp2_with fail;refine(Tryz.utf8_DecodeRuneInString _ _ (cS C)).mono ?_;rintro e X ⟨rfl,y⟩;rw[cS T,cS W];go_wp2;exact T8 (v := WX #[Z Y k,WW W8]) (by simp[results,results62,go_sem]) O ⟨j.trans (y.mono j.size),by rw[cS F]⟩
   .have F:Hid (Sp.gu s f (k+(Utf8.decode s k).2)=Sp.bad s):=by
     show _=_;rw[<-N.out];simp only[Sp.gu];rw[T0 m,TZ hd]
    by_cases L:(Utf8.decode s k).1=65533
    .have q:¬(Utf8.decode s k).2=1:=λh=>hd (Prod.ext L h)
     have C:=cT (eM (cS R) j);clear hd;generalize Utf8.decode s k=b at *;obtain⟨t,M⟩:=b;simp only at L q G l u;subst L;have P:(((M:Nat):Int) == 1)=W9:=Uh.2 (by omega);go_wp2_with fail;refine(Tryz.utf8_DecodeRuneInString _ _ (cS C)).mono ?_;rintro e X ⟨rfl,y⟩;rw[cS T];have z:=(y.block _ (UW l)).trans l;go_wp2;go_roundw
     case rel=>exact⟨k+M,f,by omega,by omega,z,j.trans (y.mono j.size),F⟩
     case measure=>rw[iterPos_of z,r];omega
    .have P:((((Utf8.decode s k).1:Nat):Int) != 65533)=W8:=by rw[VH];omega
     clear hd L;generalize Utf8.decode s k=b at *;obtain⟨t,M⟩:=b;go_wp2;go_roundw
     case rel=>exact⟨k+M,f,by omega,by omega,l,j,F⟩
     case measure=>rw[iterPos_of l,r];omega
  .have F:Hid (Sp.bad s=U):=by
    show _=_;rw[<-N.out]
    cases f with
    |zero=>rfl
    |succ f=>simp only[Sp.gu];rw[TZ m]
   have u:∀B,(Instr.next (WV (S ⟨K (E w),0,U⟩)) W8 B).run prog wr=_:=λB=>Lib.run_next_end_at wr (K (E w)) s k B hit m
   go_wp2;exact T8 (v := WX #[Z Y 0,WW W9]) (by simp[results,results62,go_sem]) O ⟨A,by rw[cS F]⟩
end
end Go.Proofs.YtgkkdpegcieakaaGreatDoor
