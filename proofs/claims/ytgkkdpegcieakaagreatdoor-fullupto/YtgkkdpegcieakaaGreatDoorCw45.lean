import Derived.Test.YtgkkdpegcieakaaGreatDoorCw44
import Derived.Test.YtgkkdpegcieakaaGreatDoorTie
import Derived.Test.YtgkkdpegcieakaaGreatDoorCards
set_option linter.all false
set_option maxRecDepth 100000
set_option maxHeartbeats 16000000
namespace Go.Proofs.YtgkkdpegcieakaaGreatDoor
open Go.Proofs.Tryz
open Value renaming int→Z
open IntKind renaming i64→Y
open Go renaming World→WR,Value→WS,Calls→WT
section
open Go.RowKit Go.Shelf Go.Lib
theorem own:ownKnob prog.godebug=none:=by kernel_rfl
theorem TI:U8Extra prog Tryz.lays260_ren:=⟨by kernel_rfl,by kernel_rfl,by kernel_rfl,by kernel_rfl,by kernel_rfl,by kernel_rfl,by kernel_rfl⟩
theorem Ip:(Rows.laid_unicode_utf8_acceptRanges:DataW Unit)=acceptData:=by kernel_rfl
theorem Ls:Rows.laid_unicode_utf8_first=firstData:=Pinned.utf8First_eq
theorem NU{w : WR}(h1 : VarReads prog w "unicode/utf8.first" Rows.laid_unicode_utf8_first)(h2 : VarReads prog w "unicode/utf8.acceptRanges" Rows.laid_unicode_utf8_acceptRanges): Lib.Utf8Tabs 3 4 w:=utf8Tabs_of_readsT (U8Types.of260 Tryz.lays260) TI (Ls ▸ h1) (Ip ▸ h2)
theorem JI{w:WR}(h:w.ShapedOpen prog):et w:=Tryz.laysM143.s1_3 w h
end
section
open Go.RowKit Go.Shelf Go.Lib
open Go.ChangeShapes Go.WideShapes Go.ChangeAt
open Go.ChangeMaps (open_string shut_string)
theorem Bc:∃b e j:Field,prog.underlying 159=some (.struct #[b,e,j])/\b.type=9/\e.type=4/\j.type=4/\b.offset=0/\e.offset=1/\j.offset=2:=⟨_,_,_,underlying159,rfl,rfl,rfl,rfl,rfl,rfl⟩
theorem vr:prog.cellsOf 159=3:=by kernel_rfl
theorem K5:prog.cellsOf 9=1:=by kernel_rfl
theorem xP:prog.cellsOf 4=1:=by kernel_rfl
variable {cs:List WS}
theorem Ti(h:cs.length=3): ∃a b c,cs=[a,b,c]:=by
 match cs,h with
 |[a,b,c],_=>exact⟨a,b,c,rfl⟩
variable {w:WR}
theorem H6{H:Type}{enc:TypeId × WS->H}{e:Nat}{s:List UInt8}{a b:Bool}{q:List MemPlace}(h:DataW.trod enc prog w 0 (λ_=>true) false e 159 cs=some (.agg [.lit (.string s),.lit (.bool a),.lit (.bool b)],q)):cs=[.string ⟨⟨s⟩⟩,.bool a,.bool b]:=by
 obtain⟨Q,R,T,hu,V,W,X,i,f,t⟩:=Bc;obtain⟨p,n,_,o,M,j,y⟩:=DataW.trod_struct hu h;rw[vr] at M
 match p,j with
 |[g,y1,y2],_ =>
  have z:=y 0 Q rfl;have A:=y 1 R rfl;have B:=y 2 T rfl;rw[V,i,K5] at z;rw[W,f,xP] at A;rw[X,t,xP] at B;obtain⟨k,e0,rfl,_⟩:=DataW.trod_string underlying9 (x:=g) (by simpa using z);obtain⟨N,e1,rfl⟩:=DataW.trod_bool underlying4 (x:=y1) (by simpa using A);obtain⟨P,e2,rfl⟩:=DataW.trod_bool underlying4 (x:=y2) (by simpa using B);obtain⟨c0,c1,c2,rfl⟩:=Ti M;clear h y z A B;have C:[c0]=[Value.string k]:=e0;have F:[c1]=[Value.bool N]:=e1;have G:[c2]=[Value.bool P]:=e2;injection C with C;injection F with F;injection G with G;have I:=congrArg Prod.fst o;injection I with L;have l:[DataW.lit (.string s),DataW.lit (.bool a),DataW.lit (.bool b)]=[(DataW.lit (.string k.data.toList):DataW H),.lit (.bool N),.lit (.bool P)]:=L;injection l with m l;injection l with r l;injection l with u _;injection m with m;injection m with m;injection r with r;injection r with r;injection u with u;injection u with u;subst C F G r u;have hk:k=⟨⟨s⟩⟩:=by apply Vh;apply VV.1;exact m.symm
  rw[hk]
theorem NA:(i:Nat)->i<7->∀(b:List (DataW Unit)),(Rows.laid_stride_programs_shapes:DataW Unit)=.agg b->b[i]?=some (.agg [.lit (.string (Sp.yR[i]!)),.lit (.bool (decide (i<5))),.lit (.bool (i == 2))])
 |0,_,b,e=>by unfold Rows.laid_stride_programs_shapes at e;injection e with e;rw[<-e];rfl
 |1,_,b,e=>by unfold Rows.laid_stride_programs_shapes at e;injection e with e;rw[<-e];rfl
 |2,_,b,e=>by unfold Rows.laid_stride_programs_shapes at e;injection e with e;rw[<-e];rfl
 |3,_,b,e=>by unfold Rows.laid_stride_programs_shapes at e;injection e with e;rw[<-e];rfl
 |4,_,b,e=>by unfold Rows.laid_stride_programs_shapes at e;injection e with e;rw[<-e];rfl
 |5,_,b,e=>by unfold Rows.laid_stride_programs_shapes at e;injection e with e;rw[<-e];rfl
 |6,_,b,e=>by unfold Rows.laid_stride_programs_shapes at e;injection e with e;rw[<-e];rfl
 |n+7,h,_,_=>absurd h (by omega)
theorem Il(h : VarReads prog w "stride/programs.shapes" Rows.laid_stride_programs_shapes): jR w := by
 obtain⟨g,t,cs,B,p,u,y,e,hd⟩:=h;obtain rfl : 0=g := Ut ((show prog.globalNamed "stride/programs.shapes" = some 0 by kernel_rfl).symm.trans u);obtain rfl:160=t:=Ut ((show (prog.globals[0]?).map (·.type)=some 160 by kernel_rfl).symm.trans y);obtain⟨z,r⟩:∃z,(Rows.laid_stride_programs_shapes:DataW Unit)=.agg z:=⟨_,rfl⟩
 rw[r] at hd;have b:∀i,i<7->w.cell? ⟨0,i*3,none⟩=some (.string (qz i))/\w.cell? ⟨0,i*3+1,none⟩=some (.bool (decide (i<5)))/\w.cell? ⟨0,i*3+2,none⟩=some (.bool (i == 2)):=by
  intro i hi;obtain⟨A,d,q,l,C⟩:=array_elem underlying160 hd i hi;rw[NA i hi z r] at l;injection l with l;subst l;rw[vr] at C;have m:=H6 C;have F:=congrArg (·[0]?) m;have G:=congrArg (·[1]?) m;have I:=congrArg (·[2]?) m;simp only[VP,VG] at F G I;refine⟨?_,?_,?_⟩
  .rw[World.var?_cell u e (i*3),<-Array.getElem?_toList];simpa [qz] using F
  .rw[World.var?_cell u e (i*3+1),<-Array.getElem?_toList];simpa using G
  .rw[World.var?_cell u e (i*3+2),<-Array.getElem?_toList];simpa using I
 intro j v L
 match j,L with
 |0,h=>simp[tM] at h;subst h;rw[UA];exact(b 0 (by omega)).1
 |1,h=>simp[tM] at h;subst h;rw[UA];exact(b 0 (by omega)).2.1
 |2,h=>simp[tM] at h;subst h;rw[UA];exact(b 0 (by omega)).2.2
 |3,h=>simp[tM] at h;subst h;rw[UA];exact(b 1 (by omega)).1
 |4,h=>simp[tM] at h;subst h;rw[UA];exact(b 1 (by omega)).2.1
 |5,h=>simp[tM] at h;subst h;rw[UA];exact(b 1 (by omega)).2.2
 |6,h=>simp[tM] at h;subst h;rw[UA];exact(b 2 (by omega)).1
 |7,h=>simp[tM] at h;subst h;rw[UA];exact(b 2 (by omega)).2.1
 |8,h=>simp[tM] at h;subst h;rw[UA];exact(b 2 (by omega)).2.2
 |9,h=>simp[tM] at h;subst h;rw[UA];exact(b 3 (by omega)).1
 |10,h=>simp[tM] at h;subst h;rw[UA];exact(b 3 (by omega)).2.1
 |11,h=>simp[tM] at h;subst h;rw[UA];exact(b 3 (by omega)).2.2
 |12,h=>simp[tM] at h;subst h;rw[UA];exact(b 4 (by omega)).1
 |13,h=>simp[tM] at h;subst h;rw[UA];exact(b 4 (by omega)).2.1
 |14,h=>simp[tM] at h;subst h;rw[UA];exact(b 4 (by omega)).2.2
 |15,h=>simp[tM] at h;subst h;rw[UA];exact(b 5 (by omega)).1
 |16,h=>simp[tM] at h;subst h;rw[UA];exact(b 5 (by omega)).2.1
 |17,h=>simp[tM] at h;subst h;rw[UA];exact(b 5 (by omega)).2.2
 |18,h=>simp[tM] at h;subst h;rw[UA];exact(b 6 (by omega)).1
 |19,h=>simp[tM] at h;subst h;rw[UA];exact(b 6 (by omega)).2.1
 |20,h=>simp[tM] at h;subst h;rw[UA];exact(b 6 (by omega)).2.2
 |n+21,h=>simp[tM] at h
theorem Gi{P:Program}{base:Nat}{sp:Nat->Bool}{e:Nat}{t:TypeId}{j:Array (String × TypeId)}{nm:String}{d:DataW Unit}{q:List MemPlace}(ht:P.underlying t=some (.interface j))(h:DataW.trod (λ_=>()) P w base sp false e t cs=some (.iface nm d,q)): ∃u v,cs=[.iface u v]:=by
 cases e with
 |zero=>simp[DataW.trod] at h
 |succ n =>
  match cs,h with
  |[],h=>simp[DataW.trod,ht] at h
  |[c],h =>
   cases c
   case iface u v=>exact⟨u,v,rfl⟩
   all_goals (simp[DataW.trod,ht] at h)
  |a::b::r,h=>simp[DataW.trod,ht] at h
theorem Qh(h : VarReads prog w "stride/programs.errStack" Rows.laid_stride_programs_errStack): ∃u p, w.cell? ⟨5, 0, none⟩=some (.iface u p) := by
 obtain⟨g,t,cs,l,p,m,e,b,hd⟩:=h;obtain rfl : 5=g := Ut ((show prog.globalNamed "stride/programs.errStack" = some 5 by kernel_rfl).symm.trans m);obtain rfl:225=t:=Ut ((show (prog.globals[5]?).map (·.type)=some 225 by kernel_rfl).symm.trans e);obtain⟨u,v,j⟩:=Gi underlying225 hd;refine⟨u,v,?_⟩;rw[World.var?_cell m b 0,<-Array.getElem?_toList,j];rfl
end
section
open Go.RowKit Go.Shelf Go.Lib
open Go.ChangeShapes Go.WideShapes Go.ChangeAt
theorem Tryz.star: "*" ++ "errors.errorString" = "*errors.errorString" := by decide
theorem Tryz.PK(u : TypeId)(h : prog.typeName? 3 u=some "*errors.errorString"): u=338:=typeName_ptr_named (nm := "errors.errorString") (by rw [Tryz.star]; kernel_rfl) (by kernel_rfl) (by decide) u (by rw [Tryz.star]; exact h)
theorem EO:prog.cellsOf 363=1:=by kernel_rfl
theorem GS{w : WR}{e : Nat}{t : TypeId}{y : Array (String × TypeId)}{cs : List WS}{d : DataW Unit}{q : List MemPlace}(ht : prog.underlying t=some (.interface y))(h : DataW.trod (λ_ =>()) prog w 0 (λ_ =>true) false e t cs=some (.iface "*errors.errorString" (.ptr d), q)):∃u v,cs=[.iface u v]/\u=338/\DataW.Trod (λ_=>()) prog w 0 (λ_=>true) false u v (.ptr d) q:=by
 cases e with
 |zero=>simp[DataW.trod] at h
 |succ n =>
  match cs,h with
  |[],h=>simp[DataW.trod,ht] at h
  |[c],h =>
   cases c
   case iface u v =>
    unfold DataW.trod at h;rw[ht] at h;simp only at h;cases j:prog.typeName? 3 u with
    |none=>rw[j] at h;simp at h
    |some name =>
     rw[j] at h;simp only[WD] at h;obtain⟨x,z,A⟩:=h;injection A with B l;injection B with C m;refine⟨u,v,rfl,Tryz.PK u (by rw[j,C]),n,?_⟩;rw[z];obtain⟨F,G⟩:=x;simp only at l m;rw[l,m]
   all_goals (simp[DataW.trod,ht] at h)
  |a::b::r,h=>simp[DataW.trod,ht] at h
theorem xG{w:WR}{N:List MemPlace}{n:String}{g0:Nat}{d:DataW Unit}(C:prog.globalNamed n=some g0)(F:(prog.globals[g0]?).map (·.type)=some 225)(G:∀b j,MemPlace.cell b j∈N->(∃c t,w.heap[b]?=some (.cells c t (0,0)))/\∀u v,w.cell? ⟨b,j,none⟩=some (.iface u v)->Value.okWide prog w .any 0 u v){g : Nat}{t : TypeId}{cs : Array WS}{l : Nat}{p : List MemPlace}(P : prog.globalNamed n=some g)(I : (prog.globals[g]?).map (·.type)=some t)(m : w.var? prog n=some cs)(hd : DataW.trod (λ_ =>()) prog w 0 (λ_ =>true) false l t cs.toList=some (.iface "*errors.errorString" (.ptr d), p))(r:∀x∈MemPlace.row ⟨g,0,none⟩ cs.size++p,x∈N):∃z:Addr,w.cell? ⟨g0,0,none⟩=some (.iface 338 (.pointer (some z)))/\MemPlace.cell z.block z.off∈p:=by
 obtain rfl:g0=g:=Ut (C.symm.trans P);obtain rfl:225=t:=Ut (F.symm.trans I);obtain⟨u,v,A,rfl,Q⟩:=GS underlying225 hd;have e:w.cell? ⟨g0,0,none⟩=some (.iface 338 v):=by
  rw[World.var?_cell P m 0,<-Array.getElem?_toList,A];rfl
 have L:cs.size=1:=by rw[<-Va,A];rfl
 have M:=(G g0 0 (r _ (Vy _ (by rw[L];simp[MemPlace.row])))).2 _ _ e;rcases Go.ChangeShapes.open_ptr underlying338 (by rw[EO];omega) M Q with ⟨_,B,_⟩|⟨R,T,V,y,fu,rfl,B,W,_⟩
 .cases B
 .refine⟨⟨R,T,none⟩,e,?_⟩;rw[W];exact Vy _ (by rw[EO];simp[MemPlace.row])
end
section
open Go.RowKit Go.Shelf Go.Lib
open Go.ChangeShapes Go.WideShapes Go.ChangeAt
theorem Ji:(Rows.laid_internal_strconv_uint64pow10:DataW Unit)=tabData .u64 pow10Tab:=by kernel_rfl
theorem QQ{w : WR}(h : VarReads prog w "internal/strconv.uint64pow10" Rows.laid_internal_strconv_uint64pow10): Ru.fI w := by
 obtain⟨g,t,r,j,p,l,e,b,hd⟩:=h;obtain rfl:6=g:=Ut (Ru.ti.symm.trans l);obtain rfl:324=t:=Ut ((show (prog.globals[6]?).map (·.type)=some 324 by kernel_rfl).symm.trans e);rw[Ji] at hd;have m:=cells_of_tab underlying324 underlying233 (by kernel_rfl) (by kernel_rfl) hd;unfold Ru.fI TabIs;rw[b,<-m]
theorem Kt{w : WR}{a b c d e g : String × DataW Unit}{r : List (String × DataW Unit)}(h : laidMet prog (a::b::c::d::e::g::("stride/programs.errZero", Rows.laid_stride_programs_errZero)::("stride/programs.errFuel", Rows.laid_stride_programs_errFuel)::r) w): ∃z f, jY w z f := by
 obtain⟨ps,m,N,u⟩:=h;obtain⟨_,_,_,_,p1,q1,_,_,_,_,m,rfl⟩:=m;obtain⟨_,_,_,_,p2,q2,_,_,_,_,m,rfl⟩:=m;obtain⟨_,_,_,_,p3,q3,_,_,_,_,m,rfl⟩:=m;obtain⟨_,_,_,_,p6,q6,_,_,_,_,m,rfl⟩:=m;obtain⟨_,_,_,_,p7,q7,_,_,_,_,m,rfl⟩:=m;obtain⟨_,_,_,_,p8,q8,_,_,_,_,m,rfl⟩:=m;obtain⟨g4,t4,q,f4,p4,q4,P,I,y,Q,m,rfl⟩:=m;obtain⟨g5,t5,i,f5,p5,q5,T,L,G,V,_,rfl⟩:=m;have M:∀{x:MemPlace} {A B C j l F R:List MemPlace},x∈R->x∈A++(B++(C++(j++(l++(F++R))))):=λh=>Vp _ (Vp _ (Vp _ (Vp _ (Vp _ (Vp _ h)))))
 obtain⟨z,t,X⟩:=xG (g0:=1) (by kernel_rfl) (by kernel_rfl) u P I y Q (λx W=>M (Vy _ W));obtain⟨f,s,k⟩:=xG (g0:=2) (by kernel_rfl) (by kernel_rfl) u T L G V (λx W=>M (Vp _ (Vy _ W)));refine⟨z,f,t,s,?_,(u z.block z.off (M (Vy _ (Vp _ X)))).1,(u f.block f.off (M (Vp _ (Vy _ (Vp _ k))))).1⟩;rintro rfl;have p:=(VW.1 N).2.1;have o:=(VW.1 p).2.1;have n:=(VW.1 o).2.1;have h4:=(VW.1 n).2.1;have h5:=(VW.1 h4).2.1;have h6:=(VW.1 h5).2.1;exact(VW.1 h6).2.2 _ (Vp _ X) _ (Vy _ (Vp _ k)) rfl
end
namespace Hl
open Go.RowKit Go.Shelf Go.Lib
open Go.ChangeShapes Go.WideShapes Go.ChangeAt
open Go.ChangeMaps (open_string shut_string)
theorem laidOut:laidOutB prog=true:=by kernel_rfl
theorem LV{w : WR}{r : List (String × DataW Unit)}{a b : String × DataW Unit}(j : w.ShapedOpen prog)(e : laidMet prog (a::b::("internal/strconv.uint64pow10", Rows.laid_internal_strconv_uint64pow10)::("unicode/utf8.acceptRanges", Rows.laid_unicode_utf8_acceptRanges)::("stride/programs.shapes", Rows.laid_stride_programs_shapes)::("stride/programs.errStack", Rows.laid_stride_programs_errStack)::("stride/programs.errZero", Rows.laid_stride_programs_errZero)::("stride/programs.errFuel", Rows.laid_stride_programs_errFuel)::("unicode/utf8.first", Rows.laid_unicode_utf8_first)::r) w): ∃z f, Env w z f := by
 have m:=QQ (Lib.laidMet.reads e (.tail _ (.tail _ (.head _))));have hS:=Il (Lib.laidMet.reads e (.tail _ (.tail _ (.tail _ (.tail _ (.head _))))));have u:=Qh (Lib.laidMet.reads e (.tail _ (.tail _ (.tail _ (.tail _ (.tail _ (.head _)))))));have y:=NU (Lib.laidMet.reads e (.tail _ (.tail _ (.tail _ (.tail _ (.tail _ (.tail _ (.tail _ (.tail _ (.head _)))))))))) (Lib.laidMet.reads e (.tail _ (.tail _ (.tail _ (.head _)))));obtain⟨z,f,l⟩:=Kt e;exact⟨z,f,y,⟨hS,JI j,u⟩,l,m⟩
theorem Ot{H:Type}{a b:List UInt8}{c d:DataW H}(e:Rows.uptoSmall H [.lit (.string a),.lit (.string b),c,d]=true):a.length<=1048576/\b.length<=1048576/\Rows.uptoBulk d<=1048576:=by
 have h:Rows.uptoBulkAll [(.lit (.string a):DataW H),.lit (.string b),c,d]<=1048576:=VI e;simp only[Rows.uptoBulkAll,Rows.uptoBulk] at h;omega
end Hl
end Go.Proofs.YtgkkdpegcieakaaGreatDoor
