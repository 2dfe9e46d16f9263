import Derived.Test.YtgkkdpegcieakaaGreatDoorCz42
import Derived.Test.YtgkkdpegcieakaaGreatDoorTie
import Derived.Test.YtgkkdpegcieakaaGreatDoorCards
set_option linter.unusedVariables false
set_option linter.unusedSimpArgs false
set_option maxRecDepth 100000
set_option maxHeartbeats 16000000
namespace Go.Proofs.YtgkkdpegcieakaaGreatDoor
open Go.Proofs.Tryz
open Value renaming int→Z
open IntKind renaming i64→Y
open Go.Proofs.YtgkkdpegcieakaaGreatDoor.Rows renaming laid_stride_programs_shapes→rS,laid_unicode_utf8_acceptRanges→rA,laid_unicode_utf8_first→rF
open Go renaming World→TJ,Value→TK,Calls→TL
section
open Go.RowKit Go.Shelf Go.Lib
theorem own:ownKnob prog.godebug=none:=by kernel_rfl
theorem Ti:U8Extra prog Tryz.lays260_ren:=⟨by kernel_rfl,by kernel_rfl,by kernel_rfl,by kernel_rfl,by kernel_rfl,by kernel_rfl,by kernel_rfl⟩
theorem Sl:(rA:DataW Unit)=acceptData:=by kernel_rfl
theorem SH:rF=firstData:=Pinned.utf8First_eq
theorem S8{w : TJ}(h1 : VarReads prog w "unicode/utf8.first" rF)(h2 : VarReads prog w "unicode/utf8.acceptRanges" rA): Lib.Utf8Tabs 3 4 w:=utf8Tabs_of_readsT (U8Types.of260 Tryz.lays260) Ti (SH ▸ h1) (Sl ▸ h2)
theorem SK{w:TJ}(h:w.ShapedOpen prog):eA w:=Tryz.laysM143.s1_3 w h
end
section
open Go.RowKit Go.Shelf Go.Lib
open Go.ChangeShapes Go.WideShapes Go.ChangeAt
open Go.ChangeMaps (open_string shut_string)
theorem RM:∃b e j:Field,prog.underlying 159=some (.struct #[b,e,j])/\b.type=9/\e.type=4/\j.type=4/\b.offset=0/\e.offset=1/\j.offset=2:=⟨_,_,_,underlying159,rfl,rfl,rfl,rfl,rfl,rfl⟩
theorem MD:prog.cellsOf 159=3:=by kernel_rfl
theorem SN:prog.cellsOf 9=1:=by kernel_rfl
theorem RF:prog.cellsOf 4=1:=by kernel_rfl
variable {cs:List TK}
theorem Th(h:cs.length=3): ∃a b c,cs=[a,b,c]:=by
 match cs,h with
 |[a,b,c],_=>exact⟨a,b,c,rfl⟩
variable {w:TJ}
theorem Si{H:Type}{enc:TypeId × TK->H}{e:Nat}{s:List UInt8}{a b:Bool}{q:List MemPlace}(h:DataW.trod enc prog w 0 (λ_=>true) false e 159 cs=some (.agg [.lit (.string s),.lit (.bool a),.lit (.bool b)],q)):cs=[.string ⟨⟨s⟩⟩,.bool a,.bool b]:=by
 obtain⟨L,M,N,hu,O,P,Q,R,S,T⟩:=RM;obtain⟨U,n,_,V,I,j,y⟩:=DataW.trod_struct hu h;rw[MD] at I
 match U,j with
 |[W,X,i],_ =>
  have z:=y 0 L rfl;have A:=y 1 M rfl;have B:=y 2 N rfl;rw[O,R,SN] at z;rw[P,S,RF] at A;rw[Q,T,RF] at B;obtain⟨k,f,rfl,_⟩:=DataW.trod_string underlying9 (x:=W) (by simpa using z);obtain⟨J,t,rfl⟩:=DataW.trod_bool underlying4 (x:=X) (by simpa using A);obtain⟨K,p,rfl⟩:=DataW.trod_bool underlying4 (x:=i) (by simpa using B);obtain⟨o,g,c2,rfl⟩:=Th I;clear h y z A B;have C:[o]=[Value.string k]:=f;have D:[g]=[Value.bool J]:=t;have E:[c2]=[Value.bool K]:=p;injection C with C;injection D with D;injection E with E;have F:=congrArg Prod.fst V;injection F with G;have l:[DataW.lit (.string s),DataW.lit (.bool a),DataW.lit (.bool b)]=[(DataW.lit (.string k.data.toList):DataW H),.lit (.bool J),.lit (.bool K)]:=G;injection l with m l;injection l with r l;injection l with u _;injection m with m;injection m with m;injection r with r;injection r with r;injection u with u;injection u with u;subst C D E r u;have hk:k=⟨⟨s⟩⟩:=by apply Bk;apply OV.1;exact m.symm
  rw[hk]
theorem S7:(i:Nat)->i<7->∀(b:List (DataW Unit)),(rS:DataW Unit)=.agg b->b[i]?=some (.agg [.lit (.string (Sp.BL[i]!)),.lit (.bool (decide (i<5))),.lit (.bool (i == 2))])
 |0,_,b,e=>by unfold rS at e;injection e with e;rw[<-e];rfl
 |1,_,b,e=>by unfold rS at e;injection e with e;rw[<-e];rfl
 |2,_,b,e=>by unfold rS at e;injection e with e;rw[<-e];rfl
 |3,_,b,e=>by unfold rS at e;injection e with e;rw[<-e];rfl
 |4,_,b,e=>by unfold rS at e;injection e with e;rw[<-e];rfl
 |5,_,b,e=>by unfold rS at e;injection e with e;rw[<-e];rfl
 |6,_,b,e=>by unfold rS at e;injection e with e;rw[<-e];rfl
 |n+7,h,_,_=>absurd h (by omega)
theorem Sc(h : VarReads prog w "stride/programs.shapes" rS): kU w := by
 obtain⟨g,t,cs,B,p,u,y,e,hd⟩:=h;obtain rfl : 0=g := iP ((show prog.globalNamed "stride/programs.shapes" = some 0 by kernel_rfl).symm.trans u);obtain rfl:160=t:=iP ((show (prog.globals[0]?).map (·.type)=some 160 by kernel_rfl).symm.trans y);obtain⟨z,r⟩:∃z,(rS:DataW Unit)=.agg z:=⟨_,rfl⟩
 rw[r] at hd;have b:∀i,i<7->w.cell? ⟨0,i*3,none⟩=some (.string (sP i))/\w.cell? ⟨0,i*3+1,none⟩=some (.bool (decide (i<5)))/\w.cell? ⟨0,i*3+2,none⟩=some (.bool (i == 2)):=by
  intro i hi;obtain⟨A,d,q,l,C⟩:=array_elem underlying160 hd i hi;rw[S7 i hi z r] at l;injection l with l;subst l;rw[MD] at C;have m:=Si C;have D:=congrArg (·[0]?) m;have E:=congrArg (·[1]?) m;have F:=congrArg (·[2]?) m;simp only[Hj,Gt] at D E F;refine⟨?_,?_,?_⟩
  .rw[World.var?_cell u e (i*3),<-Array.getElem?_toList];simpa [sP] using D
  .rw[World.var?_cell u e (i*3+1),<-Array.getElem?_toList];simpa using E
  .rw[World.var?_cell u e (i*3+2),<-Array.getElem?_toList];simpa using F
 intro j v G
 match j,G with
 |0,h=>simp[Qw] at h;subst h;rw[eW];exact(b 0 (by omega)).1
 |1,h=>simp[Qw] at h;subst h;rw[eW];exact(b 0 (by omega)).2.1
 |2,h=>simp[Qw] at h;subst h;rw[eW];exact(b 0 (by omega)).2.2
 |3,h=>simp[Qw] at h;subst h;rw[eW];exact(b 1 (by omega)).1
 |4,h=>simp[Qw] at h;subst h;rw[eW];exact(b 1 (by omega)).2.1
 |5,h=>simp[Qw] at h;subst h;rw[eW];exact(b 1 (by omega)).2.2
 |6,h=>simp[Qw] at h;subst h;rw[eW];exact(b 2 (by omega)).1
 |7,h=>simp[Qw] at h;subst h;rw[eW];exact(b 2 (by omega)).2.1
 |8,h=>simp[Qw] at h;subst h;rw[eW];exact(b 2 (by omega)).2.2
 |9,h=>simp[Qw] at h;subst h;rw[eW];exact(b 3 (by omega)).1
 |10,h=>simp[Qw] at h;subst h;rw[eW];exact(b 3 (by omega)).2.1
 |11,h=>simp[Qw] at h;subst h;rw[eW];exact(b 3 (by omega)).2.2
 |12,h=>simp[Qw] at h;subst h;rw[eW];exact(b 4 (by omega)).1
 |13,h=>simp[Qw] at h;subst h;rw[eW];exact(b 4 (by omega)).2.1
 |14,h=>simp[Qw] at h;subst h;rw[eW];exact(b 4 (by omega)).2.2
 |15,h=>simp[Qw] at h;subst h;rw[eW];exact(b 5 (by omega)).1
 |16,h=>simp[Qw] at h;subst h;rw[eW];exact(b 5 (by omega)).2.1
 |17,h=>simp[Qw] at h;subst h;rw[eW];exact(b 5 (by omega)).2.2
 |18,h=>simp[Qw] at h;subst h;rw[eW];exact(b 6 (by omega)).1
 |19,h=>simp[Qw] at h;subst h;rw[eW];exact(b 6 (by omega)).2.1
 |20,h=>simp[Qw] at h;subst h;rw[eW];exact(b 6 (by omega)).2.2
 |n+21,h=>simp[Qw] at h
theorem Sw{P:Program}{base:Nat}{sp:Nat->Bool}{e:Nat}{t:TypeId}{j:Array (String × TypeId)}{nm:String}{d:DataW Unit}{q:List MemPlace}(ht:P.underlying t=some (.interface j))(h:DataW.trod (λ_=>()) P w base sp false e t cs=some (.iface nm d,q)): ∃u v,cs=[.iface u v]:=by
 cases e with
 |zero=>simp[DataW.trod] at h
 |succ n =>
  match cs,h with
  |[],h=>simp[DataW.trod,ht] at h
  |[c],h =>
   cases c
   case iface u v=>exact⟨u,v,rfl⟩
   all_goals (simp[DataW.trod,ht] at h)
  |a::b::r,h=>simp[DataW.trod,ht] at h
theorem Tc(h : VarReads prog w "stride/programs.errStack" Rows.laid_stride_programs_errStack): ∃u p, w.cell? ⟨5, 0, none⟩=some (.iface u p) := by
 obtain⟨g,t,cs,l,p,m,e,b,hd⟩:=h;obtain rfl : 5=g := iP ((show prog.globalNamed "stride/programs.errStack" = some 5 by kernel_rfl).symm.trans m);obtain rfl:225=t:=iP ((show (prog.globals[5]?).map (·.type)=some 225 by kernel_rfl).symm.trans e);obtain⟨u,v,j⟩:=Sw underlying225 hd;refine⟨u,v,?_⟩;rw[World.var?_cell m b 0,<-Array.getElem?_toList,j];rfl
end
section
open Go.RowKit Go.Shelf Go.Lib
open Go.ChangeShapes Go.WideShapes Go.ChangeAt
theorem Tryz.star: "*" ++ "errors.errorString" = "*errors.errorString" := by decide
theorem Tryz.Te(u : TypeId)(h : prog.typeName? 3 u=some "*errors.errorString"): u=338:=typeName_ptr_named (nm := "errors.errorString") (by rw [Tryz.star]; kernel_rfl) (by kernel_rfl) (by decide) u (by rw [Tryz.star]; exact h)
theorem RU:prog.cellsOf 363=1:=by kernel_rfl
theorem R8{w : TJ}{e : Nat}{t : TypeId}{y : Array (String × TypeId)}{cs : List TK}{d : DataW Unit}{q : List MemPlace}(ht : prog.underlying t=some (.interface y))(h : DataW.trod (λ_ =>()) prog w 0 (λ_ =>true) false e t cs=some (.iface "*errors.errorString" (.ptr d), q)):∃u v,cs=[.iface u v]/\u=338/\DataW.Trod (λ_=>()) prog w 0 (λ_=>true) false u v (.ptr d) q:=by
 cases e with
 |zero=>simp[DataW.trod] at h
 |succ n =>
  match cs,h with
  |[],h=>simp[DataW.trod,ht] at h
  |[c],h =>
   cases c
   case iface u v =>
    unfold DataW.trod at h;rw[ht] at h;simp only at h;cases j:prog.typeName? 3 u with
    |none=>rw[j] at h;simp at h
    |some name =>
     rw[j] at h;simp only[Tw] at h;obtain⟨x,z,A⟩:=h;injection A with B l;injection B with C m;refine⟨u,v,rfl,Tryz.Te u (by rw[j,C]),n,?_⟩;rw[z];obtain⟨D,E⟩:=x;simp only at l m;rw[l,m]
   all_goals (simp[DataW.trod,ht] at h)
  |a::b::r,h=>simp[DataW.trod,ht] at h
theorem Rb{w:TJ}{I:List MemPlace}{n:String}{g0:Nat}{d:DataW Unit}(C:prog.globalNamed n=some g0)(D:(prog.globals[g0]?).map (·.type)=some 225)(E:∀b j,MemPlace.cell b j∈I->(∃c t,w.heap[b]?=some (.cells c t (0,0)))/\∀u v,w.cell? ⟨b,j,none⟩=some (.iface u v)->Value.okWide prog w .any 0 u v){g : Nat}{t : TypeId}{cs : Array TK}{l : Nat}{p : List MemPlace}(J : prog.globalNamed n=some g)(F : (prog.globals[g]?).map (·.type)=some t)(m : w.var? prog n=some cs)(hd : DataW.trod (λ_ =>()) prog w 0 (λ_ =>true) false l t cs.toList=some (.iface "*errors.errorString" (.ptr d), p))(r:∀x∈MemPlace.row ⟨g,0,none⟩ cs.size++p,x∈I):∃z:Addr,w.cell? ⟨g0,0,none⟩=some (.iface 338 (.pointer (some z)))/\MemPlace.cell z.block z.off∈p:=by
 obtain rfl:g0=g:=iP (C.symm.trans J);obtain rfl:225=t:=iP (D.symm.trans F);obtain⟨u,v,A,rfl,K⟩:=R8 underlying225 hd;have e:w.cell? ⟨g0,0,none⟩=some (.iface 338 v):=by
  rw[World.var?_cell J m 0,<-Array.getElem?_toList,A];rfl
 have G:cs.size=1:=by rw[<-zh,A];rfl
 have H:=(E g0 0 (r _ (Fv _ (by rw[G];simp[MemPlace.row])))).2 _ _ e;rcases Go.ChangeShapes.open_ptr underlying338 (by rw[RU];omega) H K with ⟨_,B,_⟩|⟨L,M,N,y,fu,rfl,B,O,_⟩
 .cases B
 .refine⟨⟨L,M,none⟩,e,?_⟩;rw[O];exact Fv _ (by rw[RU];simp[MemPlace.row])
end
section
open Go.RowKit Go.Shelf Go.Lib
open Go.ChangeShapes Go.WideShapes Go.ChangeAt
theorem SR:(Rows.laid_internal_strconv_uint64pow10:DataW Unit)=tabData .u64 pow10Tab:=by kernel_rfl
theorem S9{w : TJ}(h : VarReads prog w "internal/strconv.uint64pow10" Rows.laid_internal_strconv_uint64pow10): Ru.gh w := by
 obtain⟨g,t,r,j,p,l,e,b,hd⟩:=h;obtain rfl:6=g:=iP (Ru.xA.symm.trans l);obtain rfl:324=t:=iP ((show (prog.globals[6]?).map (·.type)=some 324 by kernel_rfl).symm.trans e);rw[SR] at hd;have m:=cells_of_tab underlying324 underlying233 (by kernel_rfl) (by kernel_rfl) hd;unfold Ru.gh TabIs;rw[b,<-m]
theorem S3{w : TJ}{a b c d e g : String × DataW Unit}{r : List (String × DataW Unit)}(h : laidMet prog (a::b::c::d::e::g::("stride/programs.errZero", Rows.laid_stride_programs_errZero)::("stride/programs.errFuel", Rows.laid_stride_programs_errFuel)::r) w): ∃z f, kj w z f := by
 obtain⟨t,j,I,l⟩:=h;obtain⟨_,_,_,_,s,p,_,_,_,_,j,rfl⟩:=j;obtain⟨_,_,_,_,o,n,_,_,_,_,j,rfl⟩:=j;obtain⟨_,_,_,_,p3,q3,_,_,_,_,j,rfl⟩:=j;obtain⟨_,_,_,_,p6,q6,_,_,_,_,j,rfl⟩:=j;obtain⟨_,_,_,_,p7,q7,_,_,_,_,j,rfl⟩:=j;obtain⟨_,_,_,_,p8,q8,_,_,_,_,j,rfl⟩:=j;obtain⟨g4,t4,Q,f4,p4,q4,J,y,m,K,j,rfl⟩:=j;obtain⟨g5,t5,S,f5,p5,q5,L,G,u,M,_,rfl⟩:=j;have H:∀{x:MemPlace} {A B C D E F R:List MemPlace},x∈R->x∈A++(B++(C++(D++(E++(F++R))))):=λh=>Bh _ (Bh _ (Bh _ (Bh _ (Bh _ (Bh _ h)))))
 obtain⟨z,T,O⟩:=Rb (g0:=1) (by kernel_rfl) (by kernel_rfl) l J y m K (λx N=>H (Fv _ N));obtain⟨f,U,P⟩:=Rb (g0:=2) (by kernel_rfl) (by kernel_rfl) l L G u M (λx N=>H (Bh _ (Fv _ N)));refine⟨z,f,T,U,?_,(l z.block z.off (H (Fv _ (Bh _ O)))).1,(l f.block f.off (H (Bh _ (Fv _ (Bh _ P))))).1⟩;rintro rfl;have V:=(KY.1 I).2.1;have W:=(KY.1 V).2.1;have X:=(KY.1 W).2.1;have k:=(KY.1 X).2.1;have q:=(KY.1 k).2.1;have i:=(KY.1 q).2.1;exact(KY.1 i).2.2 _ (Bh _ O) _ (Fv _ (Bh _ P)) rfl
end
namespace Hl
open Go.RowKit Go.Shelf Go.Lib
open Go.ChangeShapes Go.WideShapes Go.ChangeAt
open Go.ChangeMaps (open_string shut_string)
theorem laidOut:laidOutB prog=true:=by kernel_rfl
theorem Ta{w : TJ}{r : List (String × DataW Unit)}{a b : String × DataW Unit}(j : w.ShapedOpen prog)(e : laidMet prog (a::b::("internal/strconv.uint64pow10", Rows.laid_internal_strconv_uint64pow10)::("unicode/utf8.acceptRanges", rA)::("stride/programs.shapes", rS)::("stride/programs.errStack", Rows.laid_stride_programs_errStack)::("stride/programs.errZero", Rows.laid_stride_programs_errZero)::("stride/programs.errFuel", Rows.laid_stride_programs_errFuel)::("unicode/utf8.first", rF)::r) w): ∃z f, Env w z f := by
 have m:=S9 (Lib.laidMet.reads e (.tail _ (.tail _ (.head _))));have hS:=Sc (Lib.laidMet.reads e (.tail _ (.tail _ (.tail _ (.tail _ (.head _))))));have u:=Tc (Lib.laidMet.reads e (.tail _ (.tail _ (.tail _ (.tail _ (.tail _ (.head _)))))));have y:=S8 (Lib.laidMet.reads e (.tail _ (.tail _ (.tail _ (.tail _ (.tail _ (.tail _ (.tail _ (.tail _ (.head _)))))))))) (Lib.laidMet.reads e (.tail _ (.tail _ (.tail _ (.head _)))));obtain⟨z,f,l⟩:=S3 e;exact⟨z,f,y,⟨hS,SK j,u⟩,l,m⟩
theorem Tf{H:Type}{a b:List UInt8}{c d:DataW H}(e:Rows.uptoSmall H [.lit (.string a),.lit (.string b),c,d]=true):a.length<=1048576/\b.length<=1048576/\Rows.uptoBulk d<=1048576:=by
 have h:Rows.uptoBulkAll [(.lit (.string a):DataW H),.lit (.string b),c,d]<=1048576:=Oh e;simp only[Rows.uptoBulkAll,Rows.uptoBulk] at h;omega
theorem QQ(H:Type)(enc:TypeId × TK->H)(W:TJ)(base:Nat)(args:Array TK)(G R:List (DataW H))(before:List MemPlace)(l:∀(j:Nat) t v,f4.params[j]?=some t->args[j]?=some v->Value.okWide prog W .any base t v)(S:DataW.Whole enc prog f4.params.toList Rows.fullSpec.vars false W args.toList G R before)(I:W.ShapedOpen prog)(hL:laidMet prog Rows.fullUptoRow.laid W)(T:Rows.uptoSmall H (G++R)=true):TL prog 4 args W λe m=>∃v,e=.returned v/\Rows.fullSpec.post enc prog f4 false true false false W args v m:=by
 have r:=S;obtain⟨p,q,u,hV,rfl,aa,ab⟩:=S;have U:DataW.TrodAll enc prog W 0 (λ_=>true) true f4.params.toList args.toList G p:=u;rw[params4] at U l;obtain⟨V,ad,d0,ae,p0,q0,J,rfl,rfl,h0,r0⟩:=trodAll_cons U;obtain⟨X,af,d1,ag,p1,q1,rfl,rfl,rfl,h1,r1⟩:=trodAll_cons r0;obtain⟨k,ah,d2,ai,x,q2,rfl,rfl,rfl,i,r2⟩:=trodAll_cons r1;obtain⟨s,aj,d3,ak,o,q3,rfl,rfl,rfl,g,r3⟩:=trodAll_cons r2;obtain⟨rfl,rfl,rfl⟩:=trodAll_nil r3;obtain rfl:args=#[V,X,k,s]:=by cases args;simp_all
 obtain⟨rfl,rfl⟩:=trodVars_none hV;obtain⟨a0,rfl,rfl,rfl,w0⟩:=open_string underlying9 (l 0 9 V rfl rfl) h0;obtain⟨a1,rfl,rfl,rfl,w1⟩:=open_string underlying9 (l 1 9 X rfl rfl) h1;obtain⟨f0,f1,f2,hu,_⟩:=Ky;obtain⟨cs,rfl,an⟩:=okWide_struct hu (l 2 23 k rfl rfl);obtain⟨E,A,F,rfl⟩:=okWide_slice underlying39 (l 3 39 s rfl rfl);clear u;simp only[B2,sj] at r T;obtain⟨k0,k1,k3⟩:=Tf T;have B:∀y∈x++o,y.block<W.heap.size:=λy C=>by
  have:=r.lt y (by simpa using C);simpa using this
 have s2:∀(m:TJ),TI W m->DataW.Trod enc prog m 0 (λb=>decide (b<W.heap.size)) true 23 (.agg cs) d2 x:=λm D=>Below.trod laidOut (by kernel_rfl) (Oh (by kernel_rfl)) i D (λy C=>B y (Fv _ C))
 have s3:∀(m:TJ),TI W m->DataW.Trod enc prog m 0 (λb=>decide (b<W.heap.size)) true 39 (.slice E A F) d3 o:=λm D=>Below.trod laidOut (by kernel_rfl) (Oh (by kernel_rfl)) g D (λy C=>B y (Bh _ C))
 obtain⟨_,g2⟩:=i;obtain⟨_,g3⟩:=g;obtain⟨x0,x1,x2,hx,i0,i1,i2⟩:=SJ g2;obtain⟨qp,n,c,K,hq,hQ,_,D⟩:=S0 g3;have hc:cs=#[.int .i64 x0,.int .i64 x1,.int .i64 x2]:=OV.1 hx;subst hc;obtain⟨rfl,rfl,rfl⟩:E=qp/\A=n/\F=c:=by
  have L:[Value.slice E A F]=[.slice qp n c]:=hq;simpa using L
 obtain⟨z,f,M⟩:=Ta I hL;have N:A<=1048576:=cx (Nat.le_of_succ_le D) k3;have O:a0.size<=1048576:=by rw[zh] at k0;exact k0
 have P:a1.size<=1048576:=by rw[zh] at k1;exact k1
 refine(SG a0 a1 x0 x1 x2 E A F K z f W M hQ N O P i0 i1 i2).mono λe m ⟨M,Q⟩=>?_
 subst M;exact⟨_,rfl,_,_,_,[],_,[],r,trodAll_mk1 (shut_bool underlying4 _),trodAll_cons_mk (shut_string underlying9 w0) (trodAll_cons_mk (shut_string underlying9 w1) (trodAll_cons_mk (s2 _ Q) (trodAll_cons_mk (s3 _ Q) trodAll_mk0))),rfl,Q.frame _,λh=>by cases h⟩
end Hl
section
open Go.RowKit Go.Shelf Go.Lib
theorem SF:((Rows.fullUptoRow.inPlace == prog.inPlace 4))=true:=by kernel_rfl
end
section
open Go.RowKit Go.Shelf Go.Lib
theorem Sv:((Rows.fullUptoRow.unfollowed == prog.unfollowed 4))=true:=by kernel_rfl
end
section
open Go.RowKit Go.Shelf Go.Lib
theorem Sb:((Rows.fullUptoRow.recurses == prog.recurses 4))=true:=by kernel_rfl
end
section
open Go.RowKit Go.Shelf Go.Lib
theorem RW:((Rows.fullUptoRow.named == prog.varsNamed 4))=true:=by kernel_rfl
end
section
open Go.RowKit Go.Shelf Go.Lib
theorem SP:(Rows.fullUptoRow.wf (OpenSpec.ofChange (Rows.OpenSpec.upto Rows.fullSpec).bare))=true:=by kernel_rfl
theorem SQ:(laidOutB prog)=true:=by kernel_rfl
theorem SO:(mapsRowed prog)=true:=by kernel_rfl
theorem SL:(f4.params.all (prog.readableRec ·))=true:=by kernel_rfl
theorem SI:(namedTie prog Rows.fullUptoRow.named (Rows.OpenSpec.upto Rows.fullSpec).bare.vars)=true:=by kernel_rfl
theorem SW:((Rows.fullUptoRow.stops == []))=true:=by kernel_rfl
theorem SZ:((prog.stops == []))=true:=by kernel_rfl
theorem S1:((Rows.fullUptoRow.knobs == []))=true:=by kernel_rfl
theorem SU:((prog.stopKnobs == []))=true:=by kernel_rfl
end
section
open Go.RowKit Go.Shelf Go.Lib
theorem R9:((Rows.fullUptoRow.maps == (f4.params.toList++(Rows.OpenSpec.upto Rows.fullSpec).bare.plain.varTypes prog).any (prog.mapsRec ·)))=true:=by kernel_rfl
theorem Sr:((Rows.fullUptoRow.ifaces == (f4.params.toList++(Rows.OpenSpec.upto Rows.fullSpec).bare.plain.varTypes prog).any (prog.ifacesRec ·)))=true:=by kernel_rfl
theorem Sj:((Rows.fullUptoRow.mapsOut == prog.mapsAmong f4.resultTypes.toList))=true:=by kernel_rfl
theorem Sz:((Rows.fullUptoRow.loops == (f4.params.toList++(Rows.OpenSpec.upto Rows.fullSpec).bare.plain.varTypes prog).any (prog.loopsFrom ·)))=true:=by kernel_rfl
theorem SD:((Rows.fullUptoRow.wideKeys == (f4.params.toList++(Rows.OpenSpec.upto Rows.fullSpec).bare.plain.varTypes prog++f4.resultTypes.toList).any (prog.wideKeysFrom ·)))=true:=by kernel_rfl
theorem R7:((Rows.OpenSpec.upto Rows.fullSpec).bare.vars.all (prog.varReadable ·))=true:=by kernel_rfl
theorem Se:(f4.resultTypes.all (λt=>prog.readableRec t&&decide (t<prog.types.size)))=true:=by kernel_rfl
theorem RY:((Rows.fullUptoRow.ifacesOut == f4.resultTypes.toList.any (prog.ifacesRec ·)))=true:=by kernel_rfl
theorem So:((Rows.fullUptoRow.loopsOut == f4.resultTypes.toList.any (prog.loopsFrom ·)))=true:=by kernel_rfl
theorem Sa:((Rows.fullUptoRow.plainKeys == prog.plainKeys))=true:=by kernel_rfl
theorem Sk:(Rows.fullUptoRow.shortTexts.isNone)=true:=by kernel_rfl
theorem Sx:(prog.stopsHeard)=true:=by kernel_rfl
theorem Sq:(prog.mayEnter)=true:=by kernel_rfl
theorem Ss:((Rows.fullUptoRow.lifted == prog.liftsFinal))=true:=by kernel_rfl
theorem SC:((prog.make == some Rows.fullUptoRow.make))=true:=by kernel_rfl
theorem Su:((Rows.fullUptoRow.kinds == (if Rows.fullUptoRow.domain.isEmpty then [] else f4.params.toList.map λt=>match prog.underlying t with | some (.int k)=>some k | _=>none)))=true:=by kernel_rfl
theorem Sh:((Rows.fullUptoRow.pinned == Rows.fullUptoRow.pinnedBy))=true:=by kernel_rfl
theorem Sf:((Rows.fullUptoRow.veiled == (f4.params.toList++(Rows.OpenSpec.upto Rows.fullSpec).bare.plain.varTypes prog++f4.resultTypes.toList).any (prog.veiledRec ·)))=true:=by kernel_rfl
theorem Sy:(Rows.fullUptoRow.veiledFits prog f4.params.toList (f4.params.toList++(Rows.OpenSpec.upto Rows.fullSpec).bare.plain.varTypes prog++f4.resultTypes.toList))=true:=by kernel_rfl
end
section
open Go.RowKit Go.Shelf Go.Lib
open Go.ChangeShapes Go.WideShapes Go.ChangeAt
theorem xB{a b:Bool}(h1:a=true)(h2:b=true):(a&&b)=true:=by rw[h1,h2];rfl
theorem RJ:joinedFacts prog 4 f4 (Rows.OpenSpec.upto Rows.fullSpec).bare Rows.fullUptoRow=true:=by
 unfold joinedFacts;exact xB (xB (xB (xB (xB (xB (xB (xB (xB (xB (xB (xB (xB (xB (xB (xB (xB (xB (xB (xB (xB (xB (xB (xB (xB (xB (xB (xB (xB (xB (xB SP SQ) SO) SL) SI) SW) SZ) S1) SU) SF) Sv) Sb) RW) R9) Sr) Sj) Sz) SD) R7) Se) RY) So) Sa) Sk) Sx) Sq) Ss) SC) Su) Sh) Sf) Sy
theorem RL:prog.funcNamed Rows.fullUptoRow.func=some 4:=by kernel_rfl
theorem RR:f4.isInstance prog Rows.fullUptoRow.origin Rows.fullUptoRow.targs:=Oh (by kernel_rfl)
theorem RP:f4.isWrapper prog Rows.fullUptoRow.wrapper Rows.fullUptoRow.mainSum:=by unfold Func.isWrapper;first|(rw[cg (by decide +kernel)];kernel_rfl)|(rw[cd (by decide +kernel)];exact⟨rfl,rfl⟩)
end
section
open Go.RowKit Go.Shelf Go.Lib
open Go.ChangeShapes Go.WideShapes Go.ChangeAt
theorem SA(os:Os)(H:Type)(enc:TypeId × TK->H):∃(w:TJ) (tape:Tape) (i:Input),w.os=os/\(w.forCall tape i).Shaped prog/\i.vars=[]/\Input.okWide prog (w.forCall tape i) .any w.heap.size 4 i/\
   (Rows.OpenSpec.upto Rows.fullSpec).preRow enc prog f4 Rows.fullUptoRow.domain false Rows.fullUptoRow.laid (w.forCall tape i).memory i.args/\({ modest:=false }:Assume).holds prog (lone (Frame.enter prog 4 i.args .normal) [] (w.forCall tape i)):=by
 obtain⟨w,tape,i,b,e,j,l,m,r⟩:=ChangeSpec.witness_shaped (enc:=enc) (C:=Tryz.checked) (os:=os) (f:=4) (fn:=f4) (s:=Rows.fullSpec) (conds:=[]) (apart:=false)
  (X:=λw args=>(Rows.OpenSpec.upto Rows.fullSpec).preRow enc prog f4 Rows.fullUptoRow.domain false Rows.fullUptoRow.laid w args) false (World.laidAll prog os Rows.fullUptoRow.laid) #[.string ByteArray.empty,.string ByteArray.empty,.agg #[.int .i64 0,.int .i64 0,.int .i64 0],.slice none 0 0] 8 (World.laidAll_os _ _ _)
  (World.shaped_of_ZipB (by kernel_rfl) (by kernel_rfl)) (by kernel_rfl) (by kernel_rfl) (by kernel_rfl)
  (OpenSpec.preRow_of_cond 8 (x:=([.lit (.string []),.lit (.string []),.agg [.lit (.int .i64 0),.lit (.int .i64 0),.lit (.int .i64 0)],.nil],[],[])) (by kernel_rfl) (by kernel_rfl) (λk u=>by cases u;kernel_rfl) (by kernel_rfl)
    (by rw[MakeChecks.laidMetH_plain _ _ _ (by kernel_rfl)];exact laidMet_laidAll _ (by kernel_rfl) (by kernel_rfl)))
 exact⟨w,tape,i,b,e,j,l,m.1.2,r⟩
theorem RG(os:Os)(started:os.Started)(H:Type)(enc:TypeId × TK->H)(F:Stop.Interp):ReturnsInHanded {} Tryz.checked os 4 .any ((Rows.OpenSpec.upto Rows.fullSpec).preRow enc prog f4 Rows.fullUptoRow.domain false Rows.fullUptoRow.laid) (((Rows.OpenSpec.upto Rows.fullSpec).at F).post enc prog f4 false true false false):=by
 refine returnsInHanded_of_row (C:=Tryz.checked) (s:=Rows.OpenSpec.upto Rows.fullSpec) own started (by kernel_rfl) func4 (SA os H enc) ?_;intro W e args r u before j y _ b _ m l _;rw[MakeChecks.laidMetH_plain _ _ _ (by kernel_rfl)] at m;exact Hl.QQ H enc W e args r u before j y l m (b _ rfl)
theorem RQ:Rows.FullUptoSaid:=OpenClaim.holds_of_cond 4 f4 rfl rfl rfl rfl rfl rfl rfl ⟨rfl,rfl,rfl,rfl,rfl⟩ rfl rfl rfl rfl rfl RL func4 RJ RR RP
  (λos started H enc _ F=>by rw[OpenClaim.pre_eq_preRow];exact RG os started H enc F)
end
section
open Go.RowKit Go.Shelf Go.Lib
open Go.ChangeShapes Go.WideShapes Go.ChangeAt
theorem RT:Rows.fullUptoRow.wfByText (Rows.OpenSpec.upto Rows.fullSpec)=true:=by kernel_rfl
theorem O9: prog.mainIs=some (true, "d2c0c49b9c7aaea3570b23a1e6caf723283f3c9a79cebd3c2472c06ae6dc3d91".toList) := by kernel_rfl
theorem Mk:true=prog.looks []:=by kernel_rfl
theorem RO:([9,9,23,39].all λu=>!prog.wantsStandIn u)=true:=by kernel_rfl
theorem RS:false=Rows.fullUptoRow.goesBy prog:=by kernel_rfl
theorem full_upto_card:Rows.FullUptoCardSaid:=Claim7.holds_tied_plain_at .later [] [.data, .data, .data, .data, .data, .sentinel, .sentinel, .sentinel, .pinned] true (true, "d2c0c49b9c7aaea3570b23a1e6caf723283f3c9a79cebd3c2472c06ae6dc3d91") true RQ (λ_ h =>by cases h) RT (λ_ h =>by cases h) fullUpto_row_tie rfl ⟨rfl, rfl⟩ O9 rfl
  (λf l m b=>by
    obtain rfl:f=4:=iP (RL.symm.trans m) |>.symm;obtain rfl:l=f4:=(iP (func4.symm.trans b)).symm;exact⟨Mk,λj t e=>by
     rw[params4] at e;have r:t∈[9,9,23,39]:=by simpa using Array.mem_of_getElem? e
     exact(show prog.wantsStandIn t=false by simpa using List.all_eq_true.1 RO t r)⟩)
  RS
#print axioms full_upto_card
end
end Go.Proofs.YtgkkdpegcieakaaGreatDoor
