import Derived.Test.YtgkkdpegcieakaaGreatDoorTie
import Derived.Test.YtgkkdpegcieakaaGreatDoorCards
import Derived.Test.YtgkkdpegcieakaaGreatDoorCv36
set_option linter.all false
set_option maxRecDepth 100000
set_option maxHeartbeats 0
namespace Go.Proofs.YtgkkdpegcieakaaGreatDoor
open Go.Proofs.Tryz
open Value renaming int→Z
open IntKind renaming i64→Y
open Go renaming World→V5,Value→V6,Calls→V7
section
open Go.RowKit Go.Shelf Go.Lib
theorem own:ownKnob prog.godebug=none:=by kernel_rfl
theorem S9:U8Extra prog Tryz.lays260_ren:=⟨by kernel_rfl,by kernel_rfl,by kernel_rfl,by kernel_rfl,by kernel_rfl,by kernel_rfl,by kernel_rfl⟩
theorem GS:(Rows.laid_unicode_utf8_acceptRanges:DataW Unit)=acceptData:=by kernel_rfl
theorem Iy:Rows.laid_unicode_utf8_first=firstData:=Pinned.utf8First_eq
theorem L9{w : V5}(h1 : VarReads prog w "unicode/utf8.first" Rows.laid_unicode_utf8_first)(h2 : VarReads prog w "unicode/utf8.acceptRanges" Rows.laid_unicode_utf8_acceptRanges): Lib.Utf8Tabs 3 4 w:=utf8Tabs_of_readsT (U8Types.of260 Tryz.lays260) S9 (Iy ▸ h1) (GS ▸ h2)
theorem K4{w:V5}(h:w.ShapedOpen prog):ez w:=Tryz.laysM143.s1_3 w h
end
section
open Go.RowKit Go.Shelf Go.Lib
open Go.ChangeShapes Go.WideShapes Go.ChangeAt
open Go.ChangeMaps (open_string shut_string)
theorem A7:∃b e j:Field,prog.underlying 159=some (.struct #[b,e,j])/\b.type=9/\e.type=4/\j.type=4/\b.offset=0/\e.offset=1/\j.offset=2:=⟨_,_,_,underlying159,rfl,rfl,rfl,rfl,rfl,rfl⟩
theorem vD:prog.cellsOf 159=3:=by kernel_rfl
theorem Jr:prog.cellsOf 9=1:=by kernel_rfl
theorem yk:prog.cellsOf 4=1:=by kernel_rfl
variable {cs:List V6}
theorem Sy(h:cs.length=3): ∃a b c,cs=[a,b,c]:=by
 match cs,h with
 |[a,b,c],_=>exact⟨a,b,c,rfl⟩
variable {w:V5}
theorem G1{H:Type}{enc:TypeId × V6->H}{e:Nat}{s:List UInt8}{a b:Bool}{q:List MemPlace}(h:DataW.trod enc prog w 0 (λ_=>true) false e 159 cs=some (.agg [.lit (.string s),.lit (.bool a),.lit (.bool b)],q)):cs=[.string ⟨⟨s⟩⟩,.bool a,.bool b]:=by
 obtain⟨Q,R,T,hu,V,W,X,i,f,t⟩:=A7;obtain⟨p,n,_,o,L,j,y⟩:=DataW.trod_struct hu h;rw[vD] at L
 match p,j with
 |[g,y1,y2],_ =>
  have z:=y 0 Q rfl;have A:=y 1 R rfl;have B:=y 2 T rfl;rw[V,i,Jr] at z;rw[W,f,yk] at A;rw[X,t,yk] at B;obtain⟨k,e0,rfl,_⟩:=DataW.trod_string underlying9 (x:=g) (by simpa using z);obtain⟨M,e1,rfl⟩:=DataW.trod_bool underlying4 (x:=y1) (by simpa using A);obtain⟨P,e2,rfl⟩:=DataW.trod_bool underlying4 (x:=y2) (by simpa using B);obtain⟨c0,c1,c2,rfl⟩:=Sy L;clear h y z A B;have C:[c0]=[Value.string k]:=e0;have F:[c1]=[Value.bool M]:=e1;have G:[c2]=[Value.bool P]:=e2;injection C with C;injection F with F;injection G with G;have I:=congrArg Prod.fst o;injection I with K;have l:[DataW.lit (.string s),DataW.lit (.bool a),DataW.lit (.bool b)]=[(DataW.lit (.string k.data.toList):DataW H),.lit (.bool M),.lit (.bool P)]:=K;injection l with m l;injection l with r l;injection l with u _;injection m with m;injection m with m;injection r with r;injection r with r;injection u with u;injection u with u;subst C F G r u;have hk:k=⟨⟨s⟩⟩:=by apply Uy;apply Vn.1;exact m.symm
  rw[hk]
theorem Mm:(i:Nat)->i<7->∀(b:List (DataW Unit)),(Rows.laid_stride_programs_shapes:DataW Unit)=.agg b->b[i]?=some (.agg [.lit (.string (Sp.zh[i]!)),.lit (.bool (decide (i<5))),.lit (.bool (i == 2))])
 |0,_,b,e=>by unfold Rows.laid_stride_programs_shapes at e;injection e with e;rw[<-e];rfl
 |1,_,b,e=>by unfold Rows.laid_stride_programs_shapes at e;injection e with e;rw[<-e];rfl
 |2,_,b,e=>by unfold Rows.laid_stride_programs_shapes at e;injection e with e;rw[<-e];rfl
 |3,_,b,e=>by unfold Rows.laid_stride_programs_shapes at e;injection e with e;rw[<-e];rfl
 |4,_,b,e=>by unfold Rows.laid_stride_programs_shapes at e;injection e with e;rw[<-e];rfl
 |5,_,b,e=>by unfold Rows.laid_stride_programs_shapes at e;injection e with e;rw[<-e];rfl
 |6,_,b,e=>by unfold Rows.laid_stride_programs_shapes at e;injection e with e;rw[<-e];rfl
 |n+7,h,_,_=>absurd h (by omega)
theorem GP(h : VarReads prog w "stride/programs.shapes" Rows.laid_stride_programs_shapes): jF w := by
 obtain⟨g,t,cs,B,p,u,y,e,hd⟩:=h;obtain rfl : 0=g := TG ((show prog.globalNamed "stride/programs.shapes" = some 0 by kernel_rfl).symm.trans u);obtain rfl:160=t:=TG ((show (prog.globals[0]?).map (·.type)=some 160 by kernel_rfl).symm.trans y);obtain⟨z,r⟩:∃z,(Rows.laid_stride_programs_shapes:DataW Unit)=.agg z:=⟨_,rfl⟩
 rw[r] at hd;have b:∀i,i<7->w.cell? ⟨0,i*3,none⟩=some (.string (qq i))/\w.cell? ⟨0,i*3+1,none⟩=some (.bool (decide (i<5)))/\w.cell? ⟨0,i*3+2,none⟩=some (.bool (i == 2)):=by
  intro i hi;obtain⟨A,d,q,l,C⟩:=array_elem underlying160 hd i hi;rw[Mm i hi z r] at l;injection l with l;subst l;rw[vD] at C;have m:=G1 C;have F:=congrArg (·[0]?) m;have G:=congrArg (·[1]?) m;have I:=congrArg (·[2]?) m;simp only[U8,UX] at F G I;refine⟨?_,?_,?_⟩
  .rw[World.var?_cell u e (i*3),<-Array.getElem?_toList];simpa [qq] using F
  .rw[World.var?_cell u e (i*3+1),<-Array.getElem?_toList];simpa using G
  .rw[World.var?_cell u e (i*3+2),<-Array.getElem?_toList];simpa using I
 intro j v K
 match j,K with
 |0,h=>simp[tL] at h;subst h;rw[TM];exact(b 0 (by omega)).1
 |1,h=>simp[tL] at h;subst h;rw[TM];exact(b 0 (by omega)).2.1
 |2,h=>simp[tL] at h;subst h;rw[TM];exact(b 0 (by omega)).2.2
 |3,h=>simp[tL] at h;subst h;rw[TM];exact(b 1 (by omega)).1
 |4,h=>simp[tL] at h;subst h;rw[TM];exact(b 1 (by omega)).2.1
 |5,h=>simp[tL] at h;subst h;rw[TM];exact(b 1 (by omega)).2.2
 |6,h=>simp[tL] at h;subst h;rw[TM];exact(b 2 (by omega)).1
 |7,h=>simp[tL] at h;subst h;rw[TM];exact(b 2 (by omega)).2.1
 |8,h=>simp[tL] at h;subst h;rw[TM];exact(b 2 (by omega)).2.2
 |9,h=>simp[tL] at h;subst h;rw[TM];exact(b 3 (by omega)).1
 |10,h=>simp[tL] at h;subst h;rw[TM];exact(b 3 (by omega)).2.1
 |11,h=>simp[tL] at h;subst h;rw[TM];exact(b 3 (by omega)).2.2
 |12,h=>simp[tL] at h;subst h;rw[TM];exact(b 4 (by omega)).1
 |13,h=>simp[tL] at h;subst h;rw[TM];exact(b 4 (by omega)).2.1
 |14,h=>simp[tL] at h;subst h;rw[TM];exact(b 4 (by omega)).2.2
 |15,h=>simp[tL] at h;subst h;rw[TM];exact(b 5 (by omega)).1
 |16,h=>simp[tL] at h;subst h;rw[TM];exact(b 5 (by omega)).2.1
 |17,h=>simp[tL] at h;subst h;rw[TM];exact(b 5 (by omega)).2.2
 |18,h=>simp[tL] at h;subst h;rw[TM];exact(b 6 (by omega)).1
 |19,h=>simp[tL] at h;subst h;rw[TM];exact(b 6 (by omega)).2.1
 |20,h=>simp[tL] at h;subst h;rw[TM];exact(b 6 (by omega)).2.2
 |n+21,h=>simp[tL] at h
theorem GF{P:Program}{base:Nat}{sp:Nat->Bool}{e:Nat}{t:TypeId}{j:Array (String × TypeId)}{nm:String}{d:DataW Unit}{q:List MemPlace}(ht:P.underlying t=some (.interface j))(h:DataW.trod (λ_=>()) P w base sp false e t cs=some (.iface nm d,q)): ∃u v,cs=[.iface u v]:=by
 cases e with
 |zero=>simp[DataW.trod] at h
 |succ n =>
  match cs,h with
  |[],h=>simp[DataW.trod,ht] at h
  |[c],h =>
   cases c
   case iface u v=>exact⟨u,v,rfl⟩
   all_goals (simp[DataW.trod,ht] at h)
  |a::b::r,h=>simp[DataW.trod,ht] at h
theorem Pd(h : VarReads prog w "stride/programs.errStack" Rows.laid_stride_programs_errStack): ∃u p, w.cell? ⟨5, 0, none⟩=some (.iface u p) := by
 obtain⟨g,t,cs,l,p,m,e,b,hd⟩:=h;obtain rfl : 5=g := TG ((show prog.globalNamed "stride/programs.errStack" = some 5 by kernel_rfl).symm.trans m);obtain rfl:225=t:=TG ((show (prog.globals[5]?).map (·.type)=some 225 by kernel_rfl).symm.trans e);obtain⟨u,v,j⟩:=GF underlying225 hd;refine⟨u,v,?_⟩;rw[World.var?_cell m b 0,<-Array.getElem?_toList,j];rfl
end
section
open Go.RowKit Go.Shelf Go.Lib
open Go.ChangeShapes Go.WideShapes Go.ChangeAt
theorem Tryz.star: "*" ++ "errors.errorString" = "*errors.errorString" := by decide
theorem Tryz.P9(u : TypeId)(h : prog.typeName? 3 u=some "*errors.errorString"): u=338:=typeName_ptr_named (nm := "errors.errorString") (by rw [Tryz.star]; kernel_rfl) (by kernel_rfl) (by decide) u (by rw [Tryz.star]; exact h)
theorem EE:prog.cellsOf 363=1:=by kernel_rfl
theorem Gb{w : V5}{e : Nat}{t : TypeId}{y : Array (String × TypeId)}{cs : List V6}{d : DataW Unit}{q : List MemPlace}(ht : prog.underlying t=some (.interface y))(h : DataW.trod (λ_ =>()) prog w 0 (λ_ =>true) false e t cs=some (.iface "*errors.errorString" (.ptr d), q)):∃u v,cs=[.iface u v]/\u=338/\DataW.Trod (λ_=>()) prog w 0 (λ_=>true) false u v (.ptr d) q:=by
 cases e with
 |zero=>simp[DataW.trod] at h
 |succ n =>
  match cs,h with
  |[],h=>simp[DataW.trod,ht] at h
  |[c],h =>
   cases c
   case iface u v =>
    unfold DataW.trod at h;rw[ht] at h;simp only at h;cases j:prog.typeName? 3 u with
    |none=>rw[j] at h;simp at h
    |some name =>
     rw[j] at h;simp only[VS] at h;obtain⟨x,z,A⟩:=h;injection A with B l;injection B with C m;refine⟨u,v,rfl,Tryz.P9 u (by rw[j,C]),n,?_⟩;rw[z];obtain⟨F,G⟩:=x;simp only at l m;rw[l,m]
   all_goals (simp[DataW.trod,ht] at h)
  |a::b::r,h=>simp[DataW.trod,ht] at h
theorem xW{w:V5}{M:List MemPlace}{n:String}{g0:Nat}{d:DataW Unit}(C:prog.globalNamed n=some g0)(F:(prog.globals[g0]?).map (·.type)=some 225)(G:∀b j,MemPlace.cell b j∈M->(∃c t,w.heap[b]?=some (.cells c t (0,0)))/\∀u v,w.cell? ⟨b,j,none⟩=some (.iface u v)->Value.okWide prog w .any 0 u v){g : Nat}{t : TypeId}{cs : Array V6}{l : Nat}{p : List MemPlace}(P : prog.globalNamed n=some g)(I : (prog.globals[g]?).map (·.type)=some t)(m : w.var? prog n=some cs)(hd : DataW.trod (λ_ =>()) prog w 0 (λ_ =>true) false l t cs.toList=some (.iface "*errors.errorString" (.ptr d), p))(r:∀x∈MemPlace.row ⟨g,0,none⟩ cs.size++p,x∈M):∃z:Addr,w.cell? ⟨g0,0,none⟩=some (.iface 338 (.pointer (some z)))/\MemPlace.cell z.block z.off∈p:=by
 obtain rfl:g0=g:=TG (C.symm.trans P);obtain rfl:225=t:=TG (F.symm.trans I);obtain⟨u,v,A,rfl,Q⟩:=Gb underlying225 hd;have e:w.cell? ⟨g0,0,none⟩=some (.iface 338 v):=by
  rw[World.var?_cell P m 0,<-Array.getElem?_toList,A];rfl
 have K:cs.size=1:=by rw[<-Uv,A];rfl
 have L:=(G g0 0 (r _ (UT _ (by rw[K];simp[MemPlace.row])))).2 _ _ e;rcases Go.ChangeShapes.open_ptr underlying338 (by rw[EE];omega) L Q with ⟨_,B,_⟩|⟨R,T,V,y,fu,rfl,B,W,_⟩
 .cases B
 .refine⟨⟨R,T,none⟩,e,?_⟩;rw[W];exact UT _ (by rw[EE];simp[MemPlace.row])
end
section
open Go.RowKit Go.Shelf Go.Lib
open Go.ChangeShapes Go.WideShapes Go.ChangeAt
theorem Kd:(Rows.laid_internal_strconv_uint64pow10:DataW Unit)=tabData .u64 pow10Tab:=by kernel_rfl
theorem PO{w : V5}(h : VarReads prog w "internal/strconv.uint64pow10" Rows.laid_internal_strconv_uint64pow10): Ru.fN w := by
 obtain⟨g,t,r,j,p,l,e,b,hd⟩:=h;obtain rfl:6=g:=TG (Ru.tn.symm.trans l);obtain rfl:324=t:=TG ((show (prog.globals[6]?).map (·.type)=some 324 by kernel_rfl).symm.trans e);rw[Kd] at hd;have m:=cells_of_tab underlying324 underlying233 (by kernel_rfl) (by kernel_rfl) hd;unfold Ru.fN TabIs;rw[b,<-m]
theorem J7{w : V5}{a b c d e g : String × DataW Unit}{r : List (String × DataW Unit)}(h : laidMet prog (a::b::c::d::e::g::("stride/programs.errZero", Rows.laid_stride_programs_errZero)::("stride/programs.errFuel", Rows.laid_stride_programs_errFuel)::r) w): ∃z f, j6 w z f := by
 obtain⟨ps,m,M,u⟩:=h;obtain⟨_,_,_,_,p1,q1,_,_,_,_,m,rfl⟩:=m;obtain⟨_,_,_,_,p2,q2,_,_,_,_,m,rfl⟩:=m;obtain⟨_,_,_,_,p3,q3,_,_,_,_,m,rfl⟩:=m;obtain⟨_,_,_,_,p6,q6,_,_,_,_,m,rfl⟩:=m;obtain⟨_,_,_,_,p7,q7,_,_,_,_,m,rfl⟩:=m;obtain⟨_,_,_,_,p8,q8,_,_,_,_,m,rfl⟩:=m;obtain⟨g4,t4,q,f4,p4,q4,P,I,y,Q,m,rfl⟩:=m;obtain⟨g5,t5,i,f5,p5,q5,T,K,G,V,_,rfl⟩:=m;have L:∀{x:MemPlace} {A B C j l F R:List MemPlace},x∈R->x∈A++(B++(C++(j++(l++(F++R))))):=λh=>UG _ (UG _ (UG _ (UG _ (UG _ (UG _ h)))))
 obtain⟨z,t,X⟩:=xW (g0:=1) (by kernel_rfl) (by kernel_rfl) u P I y Q (λx W=>L (UT _ W));obtain⟨f,s,k⟩:=xW (g0:=2) (by kernel_rfl) (by kernel_rfl) u T K G V (λx W=>L (UG _ (UT _ W)));refine⟨z,f,t,s,?_,(u z.block z.off (L (UT _ (UG _ X)))).1,(u f.block f.off (L (UG _ (UT _ (UG _ k))))).1⟩;rintro rfl;have p:=(Vc.1 M).2.1;have o:=(Vc.1 p).2.1;have n:=(Vc.1 o).2.1;have h4:=(Vc.1 n).2.1;have h5:=(Vc.1 h4).2.1;have h6:=(Vc.1 h5).2.1;exact(Vc.1 h6).2.2 _ (UG _ X) _ (UT _ (UG _ k)) rfl
end
namespace Hl
open Go.RowKit Go.Shelf Go.Lib
open Go.ChangeShapes Go.WideShapes Go.ChangeAt
open Go.ChangeMaps (open_string shut_string)
theorem laidOut:laidOutB prog=true:=by kernel_rfl
theorem OE{w : V5}{r : List (String × DataW Unit)}{a b : String × DataW Unit}(j : w.ShapedOpen prog)(e : laidMet prog (a::b::("internal/strconv.uint64pow10", Rows.laid_internal_strconv_uint64pow10)::("unicode/utf8.acceptRanges", Rows.laid_unicode_utf8_acceptRanges)::("stride/programs.shapes", Rows.laid_stride_programs_shapes)::("stride/programs.errStack", Rows.laid_stride_programs_errStack)::("stride/programs.errZero", Rows.laid_stride_programs_errZero)::("stride/programs.errFuel", Rows.laid_stride_programs_errFuel)::("unicode/utf8.first", Rows.laid_unicode_utf8_first)::r) w): ∃z f, Env w z f := by
 have m:=PO (Lib.laidMet.reads e (.tail _ (.tail _ (.head _))));have hS:=GP (Lib.laidMet.reads e (.tail _ (.tail _ (.tail _ (.tail _ (.head _))))));have u:=Pd (Lib.laidMet.reads e (.tail _ (.tail _ (.tail _ (.tail _ (.tail _ (.head _)))))));have y:=L9 (Lib.laidMet.reads e (.tail _ (.tail _ (.tail _ (.tail _ (.tail _ (.tail _ (.tail _ (.tail _ (.head _)))))))))) (Lib.laidMet.reads e (.tail _ (.tail _ (.tail _ (.head _)))));obtain⟨z,f,l⟩:=J7 e;exact⟨z,f,y,⟨hS,K4 j,u⟩,l,m⟩
theorem Ry{H:Type}{a b:List UInt8}{c d:DataW H}(e:Rows.uptoSmall H [.lit (.string a),.lit (.string b),c,d]=true):a.length<=1048576/\b.length<=1048576/\Rows.uptoBulk d<=1048576:=by
 have h:Rows.uptoBulkAll [(.lit (.string a):DataW H),.lit (.string b),c,d]<=1048576:=Vm e;simp only[Rows.uptoBulkAll,Rows.uptoBulk] at h;omega
end Hl
namespace Hl
open Go.ChangeShapes Go.WideShapes Go.ChangeAt Go.RowKit
theorem FC:prog.cellsOf 41=3:=by kernel_rfl
theorem Dq:∃b e j:Field,prog.underlying 41=some (.struct #[b,e,j])/\b.type=3/\e.type=3/\j.type=39/\b.offset=0/\e.offset=1/\j.offset=2:=⟨_,_,_,underlying41,rfl,rfl,rfl,rfl,rfl,rfl⟩
theorem Sc.keep{w W:V5}{B n:Nat}{p:Option Addr}{K:Nat->Int}(h:Sc w p n K)(u:n<=1048576)(hb:V4 w W)(l:w.heap.size<=B):Pk.qy W B p n K:=by
 refine⟨λj m=>?_,by omega⟩;obtain⟨g,o,e,b,r⟩:=h j m;exact⟨g,o,e,(hb.cell (p:=⟨g,o+j,none⟩) b).trans r,Or.inl (TI b l)⟩
section
variable {H : Type} {enc : TypeId × Value → H} {w : World}
structure PA (w:V5) (a d:Int) (p:Option Addr) (n c:Nat) (K:Nat->Int) (B:Nat):Prop where
 ra : -9223372036854775808<=a/\a<=9223372036854775807
 q:Sc w p n K
 b:n+1<=B
theorem KK{e:Nat}{cs:List V6}{x:DataW H × List MemPlace}(h:DataW.trod enc prog w 0 (λ_=>true) true e 41 cs=some x):∃a d p n c K,cs=[.int .i64 a,.int .i64 d,.slice p n c]/\PA w a d p n c K (Rows.uptoBulk x.1):=by
 obtain⟨F,G,I,hu,L,M,P,Q,R,T⟩:=Dq;obtain⟨V,n,_,rfl,r,j,l⟩:=DataW.trod_struct hu h;rw[FC] at r
 match V,j with
 |[W,X,k],_ =>
  have u:=l 0 F rfl;have y:=l 1 G rfl;have z:=l 2 I rfl;rw[L,Q,td] at u;rw[M,R,td] at y;rw[P,T,Mh] at z;obtain⟨a,A,rfl,q⟩:=DataW.trod_int underlying3 (x:=W) (by simpa using u);obtain⟨b,B,rfl,f⟩:=DataW.trod_int underlying3 (x:=X) (by simpa using y);obtain⟨p,m,c,K,C,i,_,t⟩:=I3 (x:=k) (by simpa using z)
  match cs,r with
  |[c0,c1,c2],_ =>
   simp at A B C;subst A B C;refine⟨a,b,p,m,c,K,rfl,se q,i,?_⟩;simp only[Uj,List.map_nil,Rows.uptoBulk,Rows.uptoBulkAll];omega
theorem AR:∀(l:List (DataW H × List MemPlace)) (y:DataW H × List MemPlace),y∈l->Rows.uptoBulk y.1<=Rows.uptoBulkAll (l.map (·.1))
 |y::l,z,h=>by
  simp only[Uj,Rows.uptoBulkAll];rcases TO.1 h with e|e
  .rw[e];omega
  .have:=AR l z e;omega
theorem Jl(d:DataW H):1<=Rows.uptoBulk d:=by
 cases d with
 |lit l=>cases l <;> simp only[Rows.uptoBulk] <;> omega
 |_=>simp only[Rows.uptoBulk] <;> omega
theorem AI:∀(l:List (DataW H × List MemPlace)),l.length<=Rows.uptoBulkAll (l.map (·.1))
 |[]=>by simp
 |y::l=>by
  have:=AI l;have:=Jl y.1;simp only[Uj,Rows.uptoBulkAll,Tr];omega
theorem DN{C:Nat}{p:Option Addr}{e cap:Nat}{x:DataW H × List MemPlace}(h:DataW.trod enc prog w 0 (λ_=>true) true C 24 (Value.slice p e cap).cells.toList=some x)(P:Rows.uptoBulk x.1<=1048576):e<=1048576/\∃A f s kn kc K,Rh w p e A f s kn kc K:=by
 rcases DataW.trod_slice underlying24 h with ⟨l,Q⟩|⟨a,R,T,elems,rest,n,_,l,Q,_,hl,hm,V,G,_,_⟩
 .simp[Value.cells] at l;obtain⟨rfl,rfl,rfl⟩:=l;exact⟨by omega,λ_=>0,λ_=>0,λ_=>none,λ_=>0,λ_=>0,λ_ _=>0,λj u=>(by omega),λj u=>(by omega),λj u=>(by omega)⟩
 .simp[Value.cells] at l;obtain⟨rfl,rfl,rfl⟩:=l;rw[FC] at G;have M:Rows.uptoBulkAll (elems.map (·.1))<=1048575:=by
   rw[Q] at P;simp only[Rows.uptoBulk] at P;omega
  have each:∀i,i<e->∃(t:Int × Int × Option Addr × Nat × Nat × (Nat->Int)) (y:DataW H × List MemPlace),elems[i]?=some y/\w.cells? 0 (a.add (i*3)) 3=some [.int .i64 t.1,.int .i64 t.2.1,.slice t.2.2.1 t.2.2.2.1 t.2.2.2.2.1]/\PA w t.1 t.2.1 t.2.2.1 t.2.2.2.1 t.2.2.2.2.1 t.2.2.2.2.2 (Rows.uptoBulk y.1):=by
   intro i hi;have X:=G i hi;have B:elems[i]?=some elems[i]:=Tw (by omega);rw[B,Option.bind_eq_some_iff] at X;obtain⟨cs,z,ht⟩:=X;obtain⟨b0,b1,b2,b3,b4,b5,rfl,ho⟩:=KK ht;exact⟨(b0,b1,b2,b3,b4,b5),_,B,z,ho⟩
  obtain⟨F,hF⟩:∃F:Nat->Int × Int × Option Addr × Nat × Nat × (Nat->Int),∀i,i<e->∃y,elems[i]?=some y/\w.cells? 0 (a.add (i*3)) 3=some [.int .i64 (F i).1,.int .i64 (F i).2.1,.slice (F i).2.2.1 (F i).2.2.2.1 (F i).2.2.2.2.1]/\PA w (F i).1 (F i).2.1 (F i).2.2.1 (F i).2.2.2.1 (F i).2.2.2.2.1 (F i).2.2.2.2.2 (Rows.uptoBulk y.1):=by
   refine⟨λi=>if hi:i<e then (each i hi).choose else (0,0,none,0,0,λ_=>0),λi hi=>?_⟩;simp only[dif_pos hi];exact(each i hi).choose_spec
  clear each;have I:∀i,i<e->∀y,elems[i]?=some y->Rows.uptoBulk y.1<=1048575:=λi hi y B=>To (AR elems y (List.mem_of_getElem? B)) M
  have r:∀i,i<e->∀c,c<3->w.cell? ((a.add (i*3)).add c)=([.int .i64 (F i).1,.int .i64 (F i).2.1,.slice (F i).2.2.1 (F i).2.2.2.1 (F i).2.2.2.2.1]:List V6)[c]?:=λi hi c z=>by
   obtain⟨y,_,h2,_⟩:=hF i hi;exact(World.cells?_some h2).2.2 c z
  have aa:=AI elems;refine⟨by omega,λi=>(F i).1,λi=>(F i).2.1,λi=>(F i).2.2.1,λi=>(F i).2.2.2.1,λi=>(F i).2.2.2.2.1,λi=>(F i).2.2.2.2.2,λj u=>?_,λj u W hW=>?_,λj u=>?_⟩
  .have z0:=r 0 (by omega) 0 (by omega);have z:=r j u;obtain⟨g,o,sp⟩:=a;have z1:w.cell? (((⟨g,o,sp⟩:Addr).add (0*3)).add 0)=some (.int .i64 (F 0).1):=z0;have k:=Ao z1;simp[Addr.add] at k;obtain⟨rfl,hg⟩:=k;have ea:∀m q,((⟨g,o,none⟩:Addr).add m).add q=⟨g,o+m+q,none⟩:=by
    intro m q;unfold Addr.add;split <;> split <;> simp_all
   simp only[ea] at z;exact⟨g,o,rfl,hg,z 0 (by omega),z 1 (by omega),z 2 (by omega)⟩
  .obtain⟨y,B,_,L⟩:=hF j u;have:=I j u y B;have:=L.b;exact L.q.keep (by omega) hW V2
  .obtain⟨y,B,_,L⟩:=hF j u;exact L.ra
end
end Hl
namespace Hl
open Go.RowKit Go.Shelf Go.Lib
open Go.ChangeShapes Go.WideShapes Go.ChangeAt
open Go.ChangeMaps (open_string shut_string)
theorem tT(H:Type)(enc:TypeId × V6->H)(W:V5)(base:Nat)(args:Array V6)(F V:List (DataW H))(before:List MemPlace)(l:∀(j:Nat) t v,f3.params[j]?=some t->args[j]?=some v->Value.okWide prog W .any base t v)(X:DataW.Whole enc prog f3.params.toList Rows.healedSpec.vars false W args.toList F V before)(G:W.ShapedOpen prog)(hL:laidMet prog Rows.healedUptoRow.laid W)(k:Rows.uptoSmall H (F++V)=true):V7 prog 3 args W λe m=>∃v,e=.returned v/\Rows.healedSpec.post enc prog f3 false true false false W args v m:=by
 have r:=X;obtain⟨p,q,u,hV,rfl,aa,ab⟩:=X;have x:DataW.TrodAll enc prog W 0 (λ_=>true) true f3.params.toList args.toList F p:=u;rw[params3] at x l;obtain⟨i,ad,d0,ae,p0,q0,I,rfl,rfl,h0,r0⟩:=trodAll_cons x;obtain⟨s,af,d1,ag,p1,q1,rfl,rfl,rfl,h1,r1⟩:=trodAll_cons r0;obtain⟨o,ah,d2,ai,n,q2,rfl,rfl,rfl,g,r2⟩:=trodAll_cons r1;obtain⟨v3,aj,d3,ak,p3,q3,rfl,rfl,rfl,h3,r3⟩:=trodAll_cons r2;obtain⟨rfl,rfl,rfl⟩:=trodAll_nil r3;obtain rfl:args=#[i,s,o,v3]:=by cases args;simp_all
 obtain⟨rfl,rfl⟩:=trodVars_none hV;obtain⟨a0,rfl,rfl,rfl,w0⟩:=open_string underlying9 (l 0 9 i rfl rfl) h0;obtain⟨a1,rfl,rfl,rfl,w1⟩:=open_string underlying9 (l 1 9 s rfl rfl) h1;obtain⟨f0,f1,f2,hu,_⟩:=uS;obtain⟨cs,rfl,an⟩:=okWide_struct hu (l 2 23 o rfl rfl);obtain⟨b0,bl,bc,rfl⟩:=okWide_slice underlying24 (l 3 24 v3 rfl rfl);clear u;simp only[UJ,Ul] at r k;obtain⟨k0,k1,k3⟩:=Ry k;have B:∀y∈n++p3,y.block<W.heap.size:=λy C=>by
  have:=r.lt y (by simpa using C);simpa using this
 have s2:∀(m:V5),V4 W m->DataW.Trod enc prog m 0 (λb=>decide (b<W.heap.size)) true 23 (.agg cs) d2 n:=λm L=>Below.trod laidOut (by kernel_rfl) (Vm (by kernel_rfl)) g L (λy C=>B y (UT _ C))
 have s3:∀(m:V5),V4 W m->DataW.Trod enc prog m 0 (λb=>decide (b<W.heap.size)) true 24 (.slice b0 bl bc) d3 p3:=λm L=>Below.trod laidOut (by kernel_rfl) (Vm (by kernel_rfl)) h3 L (λy C=>B y (UG _ C))
 obtain⟨_,g2⟩:=g;obtain⟨_,g3⟩:=h3;obtain⟨x0,x1,x2,hx,i0,i1,i2⟩:=Lu g2;obtain⟨M,A,Dr,kp,kn,kc,K,hQ⟩:=DN g3 k3;have hc:cs=#[.int .i64 x0,.int .i64 x1,.int .i64 x2]:=Vn.1 hx;subst hc;obtain⟨z,f,P⟩:=OE G hL;have Q:a0.size<=1048576:=by rw[Uv] at k0;exact k0
 have R:a1.size<=1048576:=by rw[Uv] at k1;exact k1
 refine(CI a0 a1 x0 x1 x2 b0 bl bc A Dr kp kn kc K z f W P hQ M Q R i0 i1 i2).mono λe m ⟨P,T⟩=>?_
 subst P;exact⟨_,rfl,_,_,_,[],_,[],r,trodAll_mk1 (shut_bool underlying4 _),trodAll_cons_mk (shut_string underlying9 w0) (trodAll_cons_mk (shut_string underlying9 w1) (trodAll_cons_mk (s2 _ T) (trodAll_cons_mk (s3 _ T) trodAll_mk0))),rfl,T.frame _,λh=>by cases h⟩
end Hl
section
open Go.RowKit Go.Shelf Go.Lib
theorem CK:((Rows.healedUptoRow.inPlace == prog.inPlace 3))=true:=by kernel_rfl
end
section
open Go.RowKit Go.Shelf Go.Lib
theorem AH:((Rows.healedUptoRow.unfollowed == prog.unfollowed 3))=true:=by kernel_rfl
end
section
open Go.RowKit Go.Shelf Go.Lib
theorem BD:((Rows.healedUptoRow.recurses == prog.recurses 3))=true:=by kernel_rfl
end
section
open Go.RowKit Go.Shelf Go.Lib
theorem B3:((Rows.healedUptoRow.named == prog.varsNamed 3))=true:=by kernel_rfl
end
section
open Go.RowKit Go.Shelf Go.Lib
theorem Ds:(Rows.healedUptoRow.wf (OpenSpec.ofChange (Rows.OpenSpec.upto Rows.healedSpec).bare))=true:=by kernel_rfl
theorem DV:(laidOutB prog)=true:=by kernel_rfl
theorem D2:(mapsRowed prog)=true:=by kernel_rfl
theorem Dx:(f3.params.all (prog.readableRec ·))=true:=by kernel_rfl
theorem DE:(namedTie prog Rows.healedUptoRow.named (Rows.OpenSpec.upto Rows.healedSpec).bare.vars)=true:=by kernel_rfl
theorem Du:((Rows.healedUptoRow.stops == []))=true:=by kernel_rfl
theorem CH:((prog.stops == []))=true:=by kernel_rfl
theorem DW:((Rows.healedUptoRow.knobs == []))=true:=by kernel_rfl
theorem DZ:((prog.stopKnobs == []))=true:=by kernel_rfl
end
section
open Go.RowKit Go.Shelf Go.Lib
theorem Ag:((Rows.healedUptoRow.maps == (f3.params.toList++(Rows.OpenSpec.upto Rows.healedSpec).bare.plain.varTypes prog).any (prog.mapsRec ·)))=true:=by kernel_rfl
theorem Bu:((Rows.healedUptoRow.ifaces == (f3.params.toList++(Rows.OpenSpec.upto Rows.healedSpec).bare.plain.varTypes prog).any (prog.ifacesRec ·)))=true:=by kernel_rfl
theorem AX:((Rows.healedUptoRow.mapsOut == prog.mapsAmong f3.resultTypes.toList))=true:=by kernel_rfl
theorem Ca:((Rows.healedUptoRow.loops == (f3.params.toList++(Rows.OpenSpec.upto Rows.healedSpec).bare.plain.varTypes prog).any (prog.loopsFrom ·)))=true:=by kernel_rfl
theorem Bi:((Rows.healedUptoRow.wideKeys == (f3.params.toList++(Rows.OpenSpec.upto Rows.healedSpec).bare.plain.varTypes prog++f3.resultTypes.toList).any (prog.wideKeysFrom ·)))=true:=by kernel_rfl
theorem Af:((Rows.OpenSpec.upto Rows.healedSpec).bare.vars.all (prog.varReadable ·))=true:=by kernel_rfl
theorem Bc:(f3.resultTypes.all (λt=>prog.readableRec t&&decide (t<prog.types.size)))=true:=by kernel_rfl
theorem Ae:((Rows.healedUptoRow.ifacesOut == f3.resultTypes.toList.any (prog.ifacesRec ·)))=true:=by kernel_rfl
theorem BA:((Rows.healedUptoRow.loopsOut == f3.resultTypes.toList.any (prog.loopsFrom ·)))=true:=by kernel_rfl
theorem AM:((Rows.healedUptoRow.plainKeys == prog.plainKeys))=true:=by kernel_rfl
theorem BI:(Rows.healedUptoRow.shortTexts.isNone)=true:=by kernel_rfl
theorem AV:(prog.stopsHeard)=true:=by kernel_rfl
theorem AA:(prog.mayEnter)=true:=by kernel_rfl
theorem Aa:((Rows.healedUptoRow.lifted == prog.liftsFinal))=true:=by kernel_rfl
theorem Ai:((prog.make == some Rows.healedUptoRow.make))=true:=by kernel_rfl
theorem Bh:((Rows.healedUptoRow.kinds == (if Rows.healedUptoRow.domain.isEmpty then [] else f3.params.toList.map λt=>match prog.underlying t with | some (.int k)=>some k | _=>none)))=true:=by kernel_rfl
theorem Bv:((Rows.healedUptoRow.pinned == Rows.healedUptoRow.pinnedBy))=true:=by kernel_rfl
theorem AW:((Rows.healedUptoRow.veiled == (f3.params.toList++(Rows.OpenSpec.upto Rows.healedSpec).bare.plain.varTypes prog++f3.resultTypes.toList).any (prog.veiledRec ·)))=true:=by kernel_rfl
theorem Az:(Rows.healedUptoRow.veiledFits prog f3.params.toList (f3.params.toList++(Rows.OpenSpec.upto Rows.healedSpec).bare.plain.varTypes prog++f3.resultTypes.toList))=true:=by kernel_rfl
end
section
open Go.RowKit Go.Shelf Go.Lib
open Go.ChangeShapes Go.WideShapes Go.ChangeAt
theorem fK{a b:Bool}(h1:a=true)(h2:b=true):(a&&b)=true:=by rw[h1,h2];rfl
theorem wO:joinedFacts prog 3 f3 (Rows.OpenSpec.upto Rows.healedSpec).bare Rows.healedUptoRow=true:=by
 unfold joinedFacts;exact fK (fK (fK (fK (fK (fK (fK (fK (fK (fK (fK (fK (fK (fK (fK (fK (fK (fK (fK (fK (fK (fK (fK (fK (fK (fK (fK (fK (fK (fK (fK Ds DV) D2) Dx) DE) Du) CH) DW) DZ) CK) AH) BD) B3) Ag) Bu) AX) Ca) Bi) Af) Bc) Ae) BA) AM) BI) AV) AA) Aa) Ai) Bh) Bv) AW) Az
theorem va:prog.funcNamed Rows.healedUptoRow.func=some 3:=by kernel_rfl
theorem yH:f3.isInstance prog Rows.healedUptoRow.origin Rows.healedUptoRow.targs:=Vm (by kernel_rfl)
theorem zb:f3.isWrapper prog Rows.healedUptoRow.wrapper Rows.healedUptoRow.mainSum:=by unfold Func.isWrapper;first|(rw[Tg (by decide +kernel)];kernel_rfl)|(rw[Tf (by decide +kernel)];exact⟨rfl,rfl⟩)
end
section
open Go.RowKit Go.Shelf Go.Lib
open Go.ChangeShapes Go.WideShapes Go.ChangeAt
theorem A5(os:Os)(H:Type)(enc:TypeId × V6->H):∃(w:V5) (tape:Tape) (i:Input),w.os=os/\(w.forCall tape i).Shaped prog/\i.vars=[]/\Input.okWide prog (w.forCall tape i) .any w.heap.size 3 i/\
   (Rows.OpenSpec.upto Rows.healedSpec).preRow enc prog f3 Rows.healedUptoRow.domain false Rows.healedUptoRow.laid (w.forCall tape i).memory i.args/\({ modest:=false }:Assume).holds prog (lone (Frame.enter prog 3 i.args .normal) [] (w.forCall tape i)):=by
 obtain⟨w,tape,i,b,e,j,l,m,r⟩:=ChangeSpec.witness_shaped (enc:=enc) (C:=Tryz.checked) (os:=os) (f:=3) (fn:=f3) (s:=Rows.healedSpec) (conds:=[]) (apart:=false)
  (X:=λw args=>(Rows.OpenSpec.upto Rows.healedSpec).preRow enc prog f3 Rows.healedUptoRow.domain false Rows.healedUptoRow.laid w args) false (World.laidAll prog os Rows.healedUptoRow.laid) #[.string ByteArray.empty,.string ByteArray.empty,.agg #[.int .i64 0,.int .i64 0,.int .i64 0],.slice none 0 0] 8 (World.laidAll_os _ _ _)
  (World.shaped_of_ZipB (by kernel_rfl) (by kernel_rfl)) (by kernel_rfl) (by kernel_rfl) (by kernel_rfl)
  (OpenSpec.preRow_of_cond 8 (x:=([.lit (.string []),.lit (.string []),.agg [.lit (.int .i64 0),.lit (.int .i64 0),.lit (.int .i64 0)],.nil],[],[])) (by kernel_rfl) (by kernel_rfl) (λk u=>by cases u;kernel_rfl) (by kernel_rfl)
    (by rw[MakeChecks.laidMetH_plain _ _ _ (by kernel_rfl)];exact laidMet_laidAll _ (by kernel_rfl) (by kernel_rfl)))
 exact⟨w,tape,i,b,e,j,l,m.1.2,r⟩
theorem uW(os:Os)(started:os.Started)(H:Type)(enc:TypeId × V6->H)(F:Stop.Interp):ReturnsInHanded {} Tryz.checked os 3 .any ((Rows.OpenSpec.upto Rows.healedSpec).preRow enc prog f3 Rows.healedUptoRow.domain false Rows.healedUptoRow.laid) (((Rows.OpenSpec.upto Rows.healedSpec).at F).post enc prog f3 false true false false):=by
 refine returnsInHanded_of_row (C:=Tryz.checked) (s:=Rows.OpenSpec.upto Rows.healedSpec) own started (by kernel_rfl) func3 (A5 os H enc) ?_;intro W e args r u before j y _ b _ m l _;rw[MakeChecks.laidMetH_plain _ _ _ (by kernel_rfl)] at m;exact Hl.tT H enc W e args r u before j y l m (b _ rfl)
theorem zs:Rows.HealedUptoSaid:=OpenClaim.holds_of_cond 3 f3 rfl rfl rfl rfl rfl rfl rfl ⟨rfl,rfl,rfl,rfl,rfl⟩ rfl rfl rfl rfl rfl va func3 wO yH zb
  (λos started b enc _ F=>by rw[OpenClaim.pre_eq_preRow];exact uW os started b enc F)
end
section
open Go.RowKit Go.Shelf Go.Lib
open Go.ChangeShapes Go.WideShapes Go.ChangeAt
theorem yq:Rows.healedUptoRow.wfByText (Rows.OpenSpec.upto Rows.healedSpec)=true:=by kernel_rfl
theorem tW: prog.mainIs=some (true, "d2c0c49b9c7aaea3570b23a1e6caf723283f3c9a79cebd3c2472c06ae6dc3d91".toList) := by kernel_rfl
theorem tq:true=prog.looks []:=by kernel_rfl
theorem wK:([9,9,23,24].all λu=>!prog.wantsStandIn u)=true:=by kernel_rfl
theorem zu:false=Rows.healedUptoRow.goesBy prog:=by kernel_rfl
theorem healed_upto_card:Rows.HealedUptoCardSaid:=Claim7.holds_tied_plain_at .later [] [.data, .data, .data, .data, .data, .sentinel, .sentinel, .sentinel, .pinned] true (true, "d2c0c49b9c7aaea3570b23a1e6caf723283f3c9a79cebd3c2472c06ae6dc3d91") true zs (λ_ h =>by cases h) yq (λ_ h =>by cases h) healedUpto_row_tie rfl ⟨rfl, rfl⟩ tW rfl
  (λf l m b=>by
    obtain rfl:f=3:=TG (va.symm.trans m) |>.symm;obtain rfl:l=f3:=(TG (func3.symm.trans b)).symm;exact⟨tq,λj t e=>by
     rw[params3] at e;have r:t∈[9,9,23,24]:=by simpa using Array.mem_of_getElem? e
     exact(show prog.wantsStandIn t=false by simpa using List.all_eq_true.1 wK t r)⟩)
  zu
#print axioms healed_upto_card
end
end Go.Proofs.YtgkkdpegcieakaaGreatDoor
