import Derived.Test.YteflnddphpjahaaGreatDoorCmRsCtoRnQ
set_option linter.unusedVariables false
set_option linter.unusedSimpArgs false
set_option maxRecDepth 100000
set_option maxHeartbeats 16000000
namespace Go.Proofs.YteflnddphpjahaaGreatDoor
open Go.RowKit
def TPost (o:Option Sp.Tn) (w:World) (e:Ending) (w':World):Prop :=
 Below w.heap.size w w'∧match o with
  | some t=>∃ v,e = .returned (.tuple #[.agg #[.int .i64 t.value,v,.bool t.rests,.int .i64 t.give],.bool true])∧w'.ownsRow w.heap.size 2 1 v t.sent.length (t.sent.map fun m=>Value.int .i64 m.2)
  | none=>e = .returned (.tuple #[.agg #[.int .i64 0,.slice none 0 0,.bool false,.int .i64 0],.bool false])
structure TInv (w W:World) (E:Sp.Ev) (a:Int) (b:Value) (c:Bool) (d:Int):Prop where
 si:SightAt W w.heap.size E
 tu:TurnAt W (w.heap.size+1) (w.heap.size+1+1) a b c d false
 bel:Below w.heap.size w W
theorem TurnAt.ltT {w:World} {T K:Nat} {a d:Int} {b:Value} {c k:Bool} (h:TurnAt w T K a b c d k):T < w.heap.size:=World.block_lt_of_cell? w _ h.c0
theorem TurnAt.ltK {w:World} {T K:Nat} {a d:Int} {b:Value} {c k:Bool} (h:TurnAt w T K a b c d k):K < w.heap.size:=World.block_lt_of_cell? w _ h.ck
theorem TurnAt.below {w w':World} {T K:Nat} {a d:Int} {b:Value} {c k:Bool} (h:TurnAt w T K a b c d k) (hb:Below w.heap.size w w'):TurnAt w' T K a b c d k :=
 ⟨(hb.cell (p:=⟨T,0,none⟩) h.ltT).trans h.c0,(hb.cell (p:=⟨T,1,none⟩) h.ltT).trans h.c1,(hb.cell (p:=⟨T,2,none⟩) h.ltT).trans h.c2,(hb.cell (p:=⟨T,3,none⟩) h.ltT).trans h.c3,(hb.cell (p:=⟨K,0,none⟩) h.ltK).trans h.ck,fun j=>(hb.frozen (p:=⟨T,j,none⟩) h.ltT).trans (h.fz j),(hb.frozen (p:=⟨K,0,none⟩) h.ltK).trans h.fk,h.ne⟩
theorem TInv.below {w W W':World} {E:Sp.Ev} {a d:Int} {b:Value} {c:Bool} (h:TInv w W E a b c d) (hb:Below W.heap.size W W'):TInv w W' E a b c d :=
 ⟨h.si.below hb,h.tu.below hb,h.bel.trans (hb.mono h.bel.size)⟩
theorem cell_blk_other {W:World} {a b i j:Nat} {v:Value} (h:a≠b):(W.setCell ⟨a,i,none⟩ v).cell? ⟨b,j,none⟩=W.cell? ⟨b,j,none⟩:=
 World.cell?_setCell_other W ⟨a,i,none⟩ ⟨b,j,none⟩ v (by intro e;injection e with e _;exact h e)
theorem SightAt.other {W:World} {S a i:Nat} {v:Value} {E:Sp.Ev} (h:SightAt W S E) (hn:a≠S):SightAt (W.setCell ⟨a,i,none⟩ v) S E :=
 h.far (fun j=>cell_blk_other hn) (fun j=>World.frozen?_setCell _ _ _ _)
theorem TurnAt.other {W:World} {T K q i:Nat} {v:Value} {a d:Int} {b:Value} {c k:Bool} (h:TurnAt W T K a b c d k) (h1:q≠T) (h2:q≠K):TurnAt (W.setCell ⟨q,i,none⟩ v) T K a b c d k :=
 ⟨(cell_blk_other h1).trans h.c0,(cell_blk_other h1).trans h.c1,(cell_blk_other h1).trans h.c2,(cell_blk_other h1).trans h.c3,(cell_blk_other h2).trans h.ck,fun j=>(World.frozen?_setCell _ _ _ _).trans (h.fz j),(World.frozen?_setCell _ _ _ _).trans h.fk,h.ne⟩
theorem TurnAt.s0 {W:World} {T K:Nat} {a d:Int} {b:Value} {c k:Bool} (h:TurnAt W T K a b c d k) (x:Int):TurnAt (W.setCell ⟨T,0,none⟩ (.int .i64 x)) T K x b c d k :=
 ⟨World.cell?_setCell_same _ _ _ h.c0,(cso (by omega)).trans h.c1,(cso (by omega)).trans h.c2,(cso (by omega)).trans h.c3,(cell_blk_other h.ne).trans h.ck,fun j=>(World.frozen?_setCell _ _ _ _).trans (h.fz j),(World.frozen?_setCell _ _ _ _).trans h.fk,h.ne⟩
theorem TurnAt.s1 {W:World} {T K:Nat} {a d:Int} {b:Value} {c k:Bool} (h:TurnAt W T K a b c d k) (x:Value):TurnAt (W.setCell ⟨T,1,none⟩ x) T K a x c d k :=
 ⟨(cso (by omega)).trans h.c0,World.cell?_setCell_same _ _ _ h.c1,(cso (by omega)).trans h.c2,(cso (by omega)).trans h.c3,(cell_blk_other h.ne).trans h.ck,fun j=>(World.frozen?_setCell _ _ _ _).trans (h.fz j),(World.frozen?_setCell _ _ _ _).trans h.fk,h.ne⟩
theorem TurnAt.s2 {W:World} {T K:Nat} {a d:Int} {b:Value} {c k:Bool} (h:TurnAt W T K a b c d k) (x:Bool):TurnAt (W.setCell ⟨T,2,none⟩ (.bool x)) T K a b x d k :=
 ⟨(cso (by omega)).trans h.c0,(cso (by omega)).trans h.c1,World.cell?_setCell_same _ _ _ h.c2,(cso (by omega)).trans h.c3,(cell_blk_other h.ne).trans h.ck,fun j=>(World.frozen?_setCell _ _ _ _).trans (h.fz j),(World.frozen?_setCell _ _ _ _).trans h.fk,h.ne⟩
theorem TurnAt.s3 {W:World} {T K:Nat} {a d:Int} {b:Value} {c k:Bool} (h:TurnAt W T K a b c d k) (x:Int):TurnAt (W.setCell ⟨T,3,none⟩ (.int .i64 x)) T K a b c x k :=
 ⟨(cso (by omega)).trans h.c0,(cso (by omega)).trans h.c1,(cso (by omega)).trans h.c2,World.cell?_setCell_same _ _ _ h.c3,(cell_blk_other h.ne).trans h.ck,fun j=>(World.frozen?_setCell _ _ _ _).trans (h.fz j),(World.frozen?_setCell _ _ _ _).trans h.fk,h.ne⟩
theorem SightAt.setV {w:World} {S:Nat} {E:Sp.Ev} (h:SightAt w S E) (v:Int):SightAt (w.setCell ⟨S,0,none⟩ (.int .i64 v)) S (E.setV v):=by
 have ho:∀ j,j≠0→(w.setCell ⟨S,0,none⟩ (.int .i64 v)).cell? ⟨S,j,none⟩=w.cell? ⟨S,j,none⟩:=fun j hj=>cso (by omega)
 exact⟨World.cell?_setCell_same _ _ _ h.c0,(ho _ (by omega)).trans h.c1,(ho _ (by omega)).trans h.c2,(ho _ (by omega)).trans h.c3,(ho _ (by omega)).trans h.c4,(ho _ (by omega)).trans h.c5,(ho _ (by omega)).trans h.c6,(ho _ (by omega)).trans h.c7,(ho _ (by omega)).trans h.c8,fun j=>(World.frozen?_setCell _ _ _ _).trans (h.fz j)⟩
theorem SightAt.setO {w:World} {S:Nat} {E:Sp.Ev} (h:SightAt w S E) (v:Int):SightAt (w.setCell ⟨S,7,none⟩ (.int .i64 v)) S (E.setO v):=by
 have ho:∀ j,j≠7→(w.setCell ⟨S,7,none⟩ (.int .i64 v)).cell? ⟨S,j,none⟩=w.cell? ⟨S,j,none⟩:=fun j hj=>cso (by omega)
 exact⟨(ho _ (by omega)).trans h.c0,(ho _ (by omega)).trans h.c1,(ho _ (by omega)).trans h.c2,(ho _ (by omega)).trans h.c3,(ho _ (by omega)).trans h.c4,(ho _ (by omega)).trans h.c5,(ho _ (by omega)).trans h.c6,World.cell?_setCell_same _ _ _ h.c7,(ho _ (by omega)).trans h.c8,fun j=>(World.frozen?_setCell _ _ _ _).trans (h.fz j)⟩
theorem TInv.setV {w W:World} {E:Sp.Ev} {a d:Int} {b:Value} {c:Bool} (h:TInv w W E a b c d) (v:Int):TInv w (W.setCell ⟨w.heap.size,0,none⟩ (.int .i64 v)) (E.setV v) a b c d :=
 ⟨h.si.setV v,h.tu.other (by omega) (by omega),h.bel.setCell (p:=⟨w.heap.size,0,none⟩) nlr _⟩
theorem TInv.s0 {w W:World} {E:Sp.Ev} {a d:Int} {b:Value} {c:Bool} (h:TInv w W E a b c d) (x:Int):TInv w (W.setCell ⟨w.heap.size+1,0,none⟩ (.int .i64 x)) E x b c d :=
 ⟨h.si.other (by omega),h.tu.s0 x,h.bel.setCell (p:=⟨w.heap.size+1,0,none⟩) (Nat.le_succ _) _⟩
theorem TInv.s1 {w W:World} {E:Sp.Ev} {a d:Int} {b:Value} {c:Bool} (h:TInv w W E a b c d) (x:Value):TInv w (W.setCell ⟨w.heap.size+1,1,none⟩ x) E a x c d :=
 ⟨h.si.other (by omega),h.tu.s1 x,h.bel.setCell (p:=⟨w.heap.size+1,1,none⟩) (Nat.le_succ _) _⟩
theorem TInv.s2 {w W:World} {E:Sp.Ev} {a d:Int} {b:Value} {c:Bool} (h:TInv w W E a b c d) (x:Bool):TInv w (W.setCell ⟨w.heap.size+1,2,none⟩ (.bool x)) E a b x d :=
 ⟨h.si.other (by omega),h.tu.s2 x,h.bel.setCell (p:=⟨w.heap.size+1,2,none⟩) (Nat.le_succ _) _⟩
theorem TInv.s3 {w W:World} {E:Sp.Ev} {a d:Int} {b:Value} {c:Bool} (h:TInv w W E a b c d) (x:Int):TInv w (W.setCell ⟨w.heap.size+1,3,none⟩ (.int .i64 x)) E a b c x :=
 ⟨h.si.other (by omega),h.tu.s3 x,h.bel.setCell (p:=⟨w.heap.size+1,3,none⟩) (Nat.le_succ _) _⟩
theorem below_caught {w W:World} {T K:Nat} (h:Below w.heap.size w W) (hT:w.heap.size≤T) (hK:w.heap.size≤K):Below w.heap.size w (caught W T K):=
 ((((h.setCell (p:=⟨T,0,none⟩) hT _).setCell (p:=⟨T,1,none⟩) hT _).setCell (p:=⟨T,2,none⟩) hT _).setCell (p:=⟨T,3,none⟩) hT _).setCell (p:=⟨K,0,none⟩) hK _
theorem caught_at {w:World} {T K:Nat} {a d:Int} {b:Value} {c k:Bool} (h:TurnAt w T K a b c d k):TurnAt (caught w T K) T K 0 (.slice none 0 0) false 0 false:=by
 have h1:=(((h.s0 0).s1 (.slice none 0 0)).s2 false).s3 0
 unfold caught
 have hn:=h.ne
 exact⟨(cell_blk_other (fun e=>hn e.symm)).trans h1.c0,(cell_blk_other (fun e=>hn e.symm)).trans h1.c1,(cell_blk_other (fun e=>hn e.symm)).trans h1.c2,(cell_blk_other (fun e=>hn e.symm)).trans h1.c3,World.cell?_setCell_same _ _ _ h1.ck,fun j=>(World.frozen?_setCell _ _ _ _).trans (h1.fz j),(World.frozen?_setCell _ _ _ _).trans h1.fk,hn⟩
def dfr (w:World):Deferred:={ target := .fn (.func 126) #[.pointer (some ⟨w.heap.size+1,0,none⟩),.pointer (some ⟨w.heap.size+1+1,0,none⟩)],args := #[] }
def noTurn:Value := .tuple #[.agg #[.int .i64 0,.slice none 0 0,.bool false,.int .i64 0],.bool false]
theorem turn_results {w W:World} {tmps:Array Value} (h6:tmps[6]? = some (.pointer (some ⟨w.heap.size+1,0,none⟩))) (h7:tmps[7]? = some (.pointer (some ⟨w.heap.size+1+1,0,none⟩))) {a d:Int} {b:Value} {c k:Bool} (h:TurnAt W (w.heap.size+1) (w.heap.size+1+1) a b c d k) (hb:b.oneCell'=true) :
  (results Tryz.f72 tmps).run Tryz.prog W = .ok (.tuple #[.agg #[.int .i64 a,b,.bool c,.int .i64 d],.bool k]) W:=by
 have c0:=h.c0
 have c1:=h.c1
 have c2:=h.c2
 have c3:=h.c3
 have ck:=h.ck
 cases b <;> simp_all [results,Tryz.results72,go_sem,Value.oneCell']
theorem turn_fails {w W:World} {E:Sp.Ev} {a d:Int} {b:Value} {c:Bool} {z f:Addr} {tmps:Array Value} {O:Ending→World→Prop} {ch:List PanicEntry} (h6:tmps[6]? = some (.pointer (some ⟨w.heap.size+1,0,none⟩))) (h7:tmps[7]? = some (.pointer (some ⟨w.heap.size+1+1,0,none⟩)))
  (hI:TInv w W E a b c d) (he:Errs w z f) (hg:Gave z f (.panicked ch)) (hO:∀ w',Below w.heap.size w w'→O (.returned noTurn) w'):Leaves Tryz.prog Tryz.f72 tmps O [dfr w] (.panicking ch) W:=by
 have he2:=he.below hI.bel
 have hfin:∃ v,(results Tryz.f72 tmps).run Tryz.prog (caught W (w.heap.size+1) (w.heap.size+1+1)) = .ok v (caught W (w.heap.size+1) (w.heap.size+1+1))∧O (.returned v) (caught W (w.heap.size+1) (w.heap.size+1+1)):=
  ⟨noTurn,turn_results h6 h7 (caught_at hI.tu) rfl,hO _ (below_caught hI.bel (by omega) (by omega))⟩
 rcases hg with hg | hg
 ·injection hg with hg
  subst hg
  refine leaves_cons (f:=126) (args := #[.pointer (some ⟨w.heap.size+1,0,none⟩),.pointer (some ⟨w.heap.size+1+1,0,none⟩)]) (by simp) (by simp[go_sem]) ?_
  refine(tcatch_zero _ _ z f _ _ _ _ _ _ hI.tu he2).mono ?_
  rintro e u' w'' ⟨rfl,rfl,rfl⟩
  exact hfin
 ·injection hg with hg
  subst hg
  refine leaves_cons (f:=126) (args := #[.pointer (some ⟨w.heap.size+1,0,none⟩),.pointer (some ⟨w.heap.size+1+1,0,none⟩)]) (by simp) (by simp[go_sem]) ?_
  refine(tcatch_fuel _ _ z f _ _ _ _ _ _ hI.tu he2).mono ?_
  rintro e u' w'' ⟨rfl,rfl,rfl⟩
  exact hfin
theorem turn_ends {w W:World} {a d:Int} {b:Value} {c:Bool} {tmps:Array Value} {O:Ending→World→Prop} (h6:tmps[6]? = some (.pointer (some ⟨w.heap.size+1,0,none⟩))) (h7:tmps[7]? = some (.pointer (some ⟨w.heap.size+1+1,0,none⟩)))
  (hI:TurnAt W (w.heap.size+1) (w.heap.size+1+1) a b c d true) (hb:b.oneCell'=true) (hO:O (.returned (.tuple #[.agg #[.int .i64 a,b,.bool c,.int .i64 d],.bool true])) W):Leaves Tryz.prog Tryz.f72 tmps O [dfr w] .returning W:=by
 refine leaves_cons (f:=126) (args := #[.pointer (some ⟨w.heap.size+1,0,none⟩),.pointer (some ⟨w.heap.size+1+1,0,none⟩)]) (by simp) (by simp[go_sem]) ?_
 refine(tcatch_idle _ _ _).mono ?_
 rintro e u' w'' ⟨rfl,rfl,rfl⟩
 exact⟨_,turn_results h6 h7 hI hb,hO⟩
theorem turn_answer {w W:World} {B i:Nat} {P:Sp.Pg} {E:Sp.Ev} {z f:Addr} (hp:PrgAt w B P) (he:Errs w z f) (hE:Sp.EvOk E) (hb:Below w.heap.size w W) (hi:i < 5):∃ g cap,W.cell? ⟨B,i * 4,none⟩=some (.slice (some ⟨g,0,none⟩) (P.code i).length cap)∧∀ W',Below W.heap.size W W'→Calls Tryz.prog 127 #[.slice (some ⟨g,0,none⟩) (P.code i).length cap,sightV E] W' (APost (Sp.ev (P.code i) E) z f W'):=by
 obtain⟨g,cap,h1,h2⟩:=hp.code i hi
 refine⟨g,cap,(hb.cell (p:=⟨B,i * 4,none⟩) hp.lt).trans h1,fun W' hW=>?_⟩
 have hbW:=hb.trans (hW.mono hb.size)
 exact answer_any _ E hE g cap z f W' (h2.below hbW) (he.below hbW)
def noPan (Q:Exit→Act→World→Prop):Exit→Act→World→Prop
 | .panic _,_,_=>False
 | .normal,a,w=>Q .normal a w
 | .ret,a,w=>Q .ret a w
 | .exit n,a,w=>Q (.exit n) a w
 | .goto n,a,w=>Q (.goto n) a w
 | .outgrown,a,w=>Q .outgrown a w
theorem noPan_mono {Q:Exit→Act→World→Prop}:∀ e a w,noPan Q e a w→Q e a w:=fun e a w h=>by
 cases e <;> first | exact h | exact h.elim
theorem wp_join {P:Program} {c:Code} {Q:Exit→Act→World→Prop} {a:Act} {w:World} (R:World→Prop) (h:∃ A,c.wp P (noPan fun x a' w'=>x = .normal∧a'=A∧R w') a w∧∀ w',R w'→Q .normal A w'):c.wp P Q a w:=by
 obtain⟨A,h1,h2⟩:=h
 refine Code.wp_mono (fun e a w h=>?_) h1
 obtain⟨rfl,rfl,hr⟩:=noPan_mono _ _ _ h
 exact h2 _ hr
theorem leaves_put {O:Ending→World→Prop} {d:Nat} {v:Value} (h6:d≠6) (h7:d≠7) {tmps:Array Value}:∀ (ds:List Deferred) (u:FrameMode) (w:World),Leaves Tryz.prog Tryz.f72 (tmps.setIfInBounds d v) O ds u w→Leaves Tryz.prog Tryz.f72 tmps O ds u w:=by
 have hr:results Tryz.f72 (tmps.setIfInBounds d v)=results Tryz.f72 tmps:=by
  simp[results,Tryz.results72,Array.getElem?_setIfInBounds_ne h6,Array.getElem?_setIfInBounds_ne h7]
 intro ds
 induction ds with
 | nil =>
  intro u w h
  cases u with
  | run=>exact h
  | returning=>unfold Leaves at h ⊢;rw[hr] at h;exact h
  | panicking ch=>exact h
 | cons x ds ih =>
  intro u w h
  obtain⟨h1,fv,cp,f,args,h2,h3,h4⟩:=h
  refine⟨h1,fv,cp,f,args,h2,h3,h4.mono ?_⟩
  intro e u' w' he
  cases e with
  | returned v=>exact ih _ _ he
  | panicked ch=>exact ih _ _ he
  | outgrown=>exact he
theorem panic_put {K:Act→World→Prop} {O:Ending→World→Prop} {d:Nat} {v:Value} (h6:d≠6) (h7:d≠7):∀ c (a:Act) w,Exit.then K (bodyPostD Tryz.prog Tryz.f72 O) (.panic c) (a.put (some d) v) w→Exit.then K (bodyPostD Tryz.prog Tryz.f72 O) (.panic c) a w :=
 fun c a w h=>leaves_put h6 h7 _ _ _ h
theorem panic_put2 {K K2:Act→World→Prop} {O:Ending→World→Prop} {d:Nat} {v:Value} (h6:d≠6) (h7:d≠7):∀ c (a:Act) w,Exit.then K (Exit.then K2 (bodyPostD Tryz.prog Tryz.f72 O)) (.panic c) (a.put (some d) v) w→Exit.then K (Exit.then K2 (bodyPostD Tryz.prog Tryz.f72 O)) (.panic c) a w :=
 fun c a w h=>leaves_put h6 h7 _ _ _ h
theorem turn_final {P:Sp.Pg} {E E':Sp.Ev} {Es:List Sp.Ed} {O:Ending→World→Prop} {w W:World} {t:Sp.Tn} {b:Value} (hO:TPost (Sp.turnE P E Es) w=O) (ht:Sp.turnE P E Es=some t) (hI:TInv w W E' t.value b t.rests t.give) (hr:W.ownsRow (w.heap.size+1+1+1) 2 1 b t.sent.length (t.sent.map fun m=>Value.int .i64 m.2)) (hb:b.oneCell'=true) :
  ∀ tmps:Array Value,tmps[6]? = some (.pointer (some ⟨w.heap.size+1,0,none⟩))→tmps[7]? = some (.pointer (some ⟨w.heap.size+1+1,0,none⟩)) →
   Leaves Tryz.prog Tryz.f72 tmps O [dfr w] .returning (W.setCell ⟨w.heap.size+1+1,0,none⟩ (.bool true)):=by
 intro tmps h6 h7
 have hn:=hI.tu.ne
 have hT:TurnAt (W.setCell ⟨w.heap.size+1+1,0,none⟩ (.bool true)) (w.heap.size+1) (w.heap.size+1+1) t.value b t.rests t.give true :=
  ⟨(cell_blk_other (fun e=>hn e.symm)).trans hI.tu.c0,(cell_blk_other (fun e=>hn e.symm)).trans hI.tu.c1,(cell_blk_other (fun e=>hn e.symm)).trans hI.tu.c2,(cell_blk_other (fun e=>hn e.symm)).trans hI.tu.c3,World.cell?_setCell_same _ _ _ hI.tu.ck,fun j=>(World.frozen?_setCell _ _ _ _).trans (hI.tu.fz j),(World.frozen?_setCell _ _ _ _).trans hI.tu.fk,hn⟩
 refine turn_ends h6 h7 hT hb ?_
 rw[← hO,ht]
 refine⟨hI.bel.setCell (p:=⟨w.heap.size+1+1,0,none⟩) (by show w.heap.size≤w.heap.size+1+1;omega) _,b,rfl,?_⟩
 exact own_low (ownsRow_setCell_below hr (a:=⟨w.heap.size+1+1,0,none⟩) (by show w.heap.size+1+1 < w.heap.size+1+1+1;omega) (.bool true)) (by omega)
theorem turn_any (B:Nat) (P:Sp.Pg) (E:Sp.Ev) (q:Int) (Es:List Sp.Ed) (pe:Option Addr) (cap:Nat) (z f:Addr) (w:World) (hp:PrgAt w B P) (he:Errs w z f) (hE:Sp.EvOk E) (hold:E.old=E.value) (hes:EdgesAt w pe Es) (hn:∀ x ∈ Es,Sp.i64 x.n) (hl:Es.length≤1000) :
  Calls Tryz.prog 72 #[.pointer (some ⟨B,0,none⟩),sightV (E.setO q),.slice pe Es.length cap] w (TPost (Sp.turnE P E Es) w):=by
 have hmf:∀ (fn:Go.Fn) (first cap:Array Value) (w:World),(Instr.makeFunc fn first cap).run Tryz.prog w = .ok (.func fn first cap) w:=fun _ _ _ _=>rfl
 have HEN:Hid (∀ (args:Array Value) (w:World),(callFunc 127 args).run Tryz.prog w = .ok (.enter 127 args) w):=cfe Tryz.func127 (by kernel_rfl) (by kernel_rfl)
 have HH:=hde (And.intro hp (And.intro he (And.intro hE (And.intro hes hn))))
 have hHB:=hp.lt
 generalize hO:TPost (Sp.turnE P E Es) w=O
 replace hO:=hde hO
 have HI0:Hid (∀ W,W=((w.alloc (.cells #[.int .i64 (E.setO q).value,.int .i64 (E.setO q).inn,.int .i64 (E.setO q).got,.int .i64 (E.setO q).step,.int .i64 (E.setO q).id,.int .i64 (E.setO q).deg,.int .i64 (E.setO q).all,.int .i64 (E.setO q).value,.int .i64 (E.setO q).weight] 184)).alloc (.cells #[.int .i64 0,.slice none 0 0,.bool false,.int .i64 0] 186)).alloc (.cells #[.bool false] 4)→TInv w W E 0 (.slice none 0 0) false 0):=by
  show ∀ W,_
  rintro W rfl
  have hsz1:=World.size_alloc w (.cells #[.int .i64 (E.setO q).value,.int .i64 (E.setO q).inn,.int .i64 (E.setO q).got,.int .i64 (E.setO q).step,.int .i64 (E.setO q).id,.int .i64 (E.setO q).deg,.int .i64 (E.setO q).all,.int .i64 (E.setO q).value,.int .i64 (E.setO q).weight] 184)
  generalize hW1:w.alloc _=W1 at *
  have hS:W1.heap[w.heap.size]? = some (.cells #[.int .i64 (E.setO q).value,.int .i64 (E.setO q).inn,.int .i64 (E.setO q).got,.int .i64 (E.setO q).step,.int .i64 (E.setO q).id,.int .i64 (E.setO q).deg,.int .i64 (E.setO q).all,.int .i64 (E.setO q).value,.int .i64 (E.setO q).weight] 184):=by rw[← hW1];exact heap_alloc_new w _
  have hb1:Below w.heap.size w W1:=by rw[← hW1];exact(Below.refl _ _).alloc nlr _
  have hsz2:=World.size_alloc W1 (.cells #[.int .i64 0,.slice none 0 0,.bool false,.int .i64 0] 186)
  have hT:=heap_alloc_new W1 (.cells #[.int .i64 0,.slice none 0 0,.bool false,.int .i64 0] 186)
  have hb2:Below W1.heap.size W1 (W1.alloc (.cells #[.int .i64 0,.slice none 0 0,.bool false,.int .i64 0] 186)):=(Below.refl _ _).alloc nlr _
  generalize W1.alloc _=W2 at *
  have hK:=heap_alloc_new W2 (.cells #[.bool false] 4)
  have hb3:Below W2.heap.size W2 (W2.alloc (.cells #[.bool false] 4)):=(Below.refl _ _).alloc nlr _
  generalize W2.alloc _=W3 at *
  have hS3:W3.heap[w.heap.size]? = _:=(hb3.block _ (by omega)).trans ((hb2.block _ (by omega)).trans hS)
  have hT3:W3.heap[W1.heap.size]? = _:=(hb3.block _ (by omega)).trans hT
  rw[hsz1] at hT3
  rw[hsz2,hsz1] at hK
  have hsi:SightAt W3 w.heap.size E:=by
   have h0:=SightAt.new (E:=E.setO E.value) (t:=184) hS3
   have e0:E.setO E.value=E:=by
    obtain⟨e1,e2,e3,e4,e5,e6,e7,e8,e9⟩:=E
    simp only at hold
    subst hold
    rfl
   rw[e0] at h0
   exact h0
  refine⟨hsi,⟨by simp[World.cell?,hT3],by simp[World.cell?,hT3],by simp[World.cell?,hT3],by simp[World.cell?,hT3],by simp[World.cell?,hK],fun j=>by simp[World.frozen?,hT3],by simp[World.frozen?,hK],by omega⟩,?_⟩
  exact(hb1.trans (hb2.mono hb1.size)).trans (hb3.mono (by omega))
 clear hp he hE hes hn hold
 unfold sightV
 go_enter_defers Tryz.func72,Tryz.ntmps72
 go_upto_region 3 with fail
 generalize hW:World.alloc _ (.cells #[.bool false] 4)=W
 replace HI0:=hde (uh HI0 W hW.symm)
 clear hW
 obtain⟨g0,cap0,k0,ha⟩:=turn_answer (uh HH).1 (uh HH).2.1 (uh HH).2.2.1 (uh HI0).bel (i:=0) (by omega)
 have HA:=hde (ha W.drew (Below.refl _ _).drew)
 have y0:=(uh HI0).si.c0
 have y1:=(uh HI0).si.c1
 have y2:=(uh HI0).si.c2
 have y3:=(uh HI0).si.c3
 have y4:=(uh HI0).si.c4
 have y5:=(uh HI0).si.c5
 have y6:=(uh HI0).si.c6
 have y7:=(uh HI0).si.c7
 have y8:=(uh HI0).si.c8
 clear ha
 cases hev:Sp.ev (P.code 0) E with
 | none =>
  rw[hev] at HA
  have HF:Hid (∀ w',Below w.heap.size w w'→O (.returned noTurn) w'):=by
   show ∀ w',_
   intro w' hb'
   rw[← uh hO]
   have hz:Sp.turnE P E Es=none:=by
    unfold Sp.turnE
    rw[hev]
   rw[hz]
   exact⟨hb',rfl⟩
  clear hev
  refine wp_region_any (by kernel_rfl) ?_
  change wpAny _ _ _ _ _ _ _ (World.drew _)
  refine wpAny_take (i:=0) (v := ?_) rfl (by kernel_rfl) (by kernel_rfl) (by kernel_rfl) (by first | exact panic_put (d:=12) (by decide) (by decide) | exact panic_put2 (d:=12) (by decide) (by decide)) (Or.inl ⟨by rfl,?_⟩) ?_
  rotate_left
  ·intro w;go_simp;first | done | with_reducible rfl
  refine wpAny_take (i:=1) (v := ?_) rfl (by kernel_rfl) (by kernel_rfl) (by kernel_rfl) (by first | exact panic_put (d:=13) (by decide) (by decide) | exact panic_put2 (d:=13) (by decide) (by decide)) (Or.inl ⟨by rfl,?_⟩) ?_
  rotate_left
  ·intro w;go_simp;first | done | with_reducible rfl
  refine wpAny_take (i:=2) (v := ?_) rfl (by kernel_rfl) (by kernel_rfl) (by kernel_rfl) (by first | exact panic_put (d:=14) (by decide) (by decide) | exact panic_put2 (d:=14) (by decide) (by decide)) (Or.inl ⟨by rfl,?_⟩) ?_
  rotate_left
  ·intro w;go_simp;first | done | with_reducible rfl
  refine wpAny_take (i:=3) (v := ?_) rfl (by kernel_rfl) (by kernel_rfl) (by kernel_rfl) (by first | exact panic_put (d:=15) (by decide) (by decide) | exact panic_put2 (d:=15) (by decide) (by decide)) (Or.inl ⟨by rfl,?_⟩) ?_
  rotate_left
  ·intro w;go_simp;first | done | with_reducible rfl
  refine wpAny_take (i:=4) (v := ?_) rfl (by kernel_rfl) (by kernel_rfl) (by kernel_rfl) (by first | exact panic_put (d:=16) (by decide) (by decide) | exact panic_put2 (d:=16) (by decide) (by decide)) (Or.inl ⟨by rfl,?_⟩) ?_
  rotate_left
  ·intro w;go_simp;first | done | with_reducible rfl
  refine wpAny_ready (rs:=[5,6]) (by kernel_rfl) (by simp) ?_
  refine AllReady.cons rfl (fun K hK=>?_) ?_
  ·go_simp
   refine hK _ _ ?_
   clear hK K
   refine wpAny_ready (rs:=[6]) (by kernel_rfl) (by simp) ?_
   refine AllReady.cons rfl (fun K hK=>?_) AllReady.nil
   go_simp
   refine hK _ _ ?_
   clear hK K
   refine wpAny_ready (rs:=[7]) (by kernel_rfl) (by simp) ?_
   refine AllReady.cons rfl (fun K hK=>?_) AllReady.nil
   refine step_call (by rfl) _ _ _ (by rfl) 127 (by rfl) _ (by rfl) (uh HEN) (uh HA) ?_
   rintro e w1 ⟨hb1,hgv⟩
   obtain⟨ch,rfl⟩:=gave_panic hgv
   exact turn_fails rfl rfl ((uh HI0).below ((Below.refl _ _).drew.trans (hb1.mono nlr))) (uh HH).2.1 hgv (uh HF)
  ·refine AllReady.cons rfl (fun K hK=>?_) AllReady.nil
   go_simp
   refine hK _ _ ?_
   clear hK K
   refine wpAny_ready (rs:=[5]) (by kernel_rfl) (by simp) ?_
   refine AllReady.cons rfl (fun K hK=>?_) AllReady.nil
   go_simp
   refine hK _ _ ?_
   clear hK K
   refine wpAny_ready (rs:=[7]) (by kernel_rfl) (by simp) ?_
   refine AllReady.cons rfl (fun K hK=>?_) AllReady.nil
   refine step_call (by rfl) _ _ _ (by rfl) 127 (by rfl) _ (by rfl) (uh HEN) (uh HA) ?_
   rintro e w1 ⟨hb1,hgv⟩
   obtain⟨ch,rfl⟩:=gave_panic hgv
   exact turn_fails rfl rfl ((uh HI0).below ((Below.refl _ _).drew.trans (hb1.mono nlr))) (uh HH).2.1 hgv (uh HF)
 | some v =>
  rw[hev] at HA
  have HE0:=hde hev
  clear hev
  apply wp_join (fun w'=>∃ w1,Hid (Below W.heap.size W w1)∧w'=w1.setCell ⟨w.heap.size+1,0,none⟩ (.int .i64 v))
  apply Exists.intro
  apply And.intro
  case left =>
   go_region_law (refine step_call (by rfl) _ _ _ (by rfl) 127 (by rfl) _ (by rfl) (uh HEN) (uh HA) ?_;rintro e w1 ⟨hb1,rfl⟩;dsimp only;have hI1:=(uh HI0).below ((Below.refl _ _).drew.trans (hb1.mono nlr));have k1:=hI1.tu.c0;have k2:=hI1.tu.fz 0;replace hI1:=hde hI1)
   all_goals exact⟨rfl,rfl,w1,(Below.refl _ _).drew.trans (hb1.mono nlr),rfl⟩
  case right =>
  rintro w' ⟨w1,HB1,rfl⟩
  clear y0 y1 y2 y3 y4 y5 y6 y7 y8 k0 HA
  have HI1:=hde (((uh HI0).below (uh HB1)).s0 v)
  clear HB1
  clear HI0
  generalize w1.setCell _ _=W1 at HI1 ⊢
  have HEV:Hid (Sp.EvOk (E.setV v)):=(uh HH).2.2.1.setV (Sp.ev_ok (uh HH).2.2.1 num_i64 (uh HE0))
  have x0:=(uh HI1).tu.c0
  have x1:=(uh HI1).si.c0
  have x2:=(uh HI1).si.fz 0
  go_upto_region 5 with fail
  replace HI1:=hde ((uh HI1).setV v)
  clear x0 x1 x2
  generalize W1.setCell _ _=W2 at HI1 ⊢
  obtain⟨g1,cap1,k0,ha⟩:=turn_answer (uh HH).1 (uh HH).2.1 (uh HEV) (uh HI1).bel (i:=1) (by omega)
  have HA:=hde (ha W2.drew (Below.refl _ _).drew)
  have y0:=(uh HI1).si.c0
  have y1:=(uh HI1).si.c1
  have y2:=(uh HI1).si.c2
  have y3:=(uh HI1).si.c3
  have y4:=(uh HI1).si.c4
  have y5:=(uh HI1).si.c5
  have y6:=(uh HI1).si.c6
  have y7:=(uh HI1).si.c7
  have y8:=(uh HI1).si.c8
  clear ha
  cases hev:Sp.ev (P.code 1) (E.setV v) with
  | none =>
   rw[hev] at HA
   have HF:Hid (∀ w',Below w.heap.size w w'→O (.returned noTurn) w'):=by
    show ∀ w',_
    intro w' hb'
    rw[← uh hO]
    have hz:Sp.turnE P E Es=none:=by
     unfold Sp.turnE
     rw[uh HE0]
     simp only
     rw[hev]
    rw[hz]
    exact⟨hb',rfl⟩
   clear hev
   refine wp_region_any (by kernel_rfl) ?_
   change wpAny _ _ _ _ _ _ _ (World.drew _)
   refine wpAny_take (i:=0) (v := ?_) rfl (by kernel_rfl) (by kernel_rfl) (by kernel_rfl) (by first | exact panic_put (d:=24) (by decide) (by decide) | exact panic_put2 (d:=24) (by decide) (by decide)) (Or.inl ⟨by rfl,?_⟩) ?_
   rotate_left
   ·intro w;go_simp;first | done | with_reducible rfl
   refine wpAny_take (i:=1) (v := ?_) rfl (by kernel_rfl) (by kernel_rfl) (by kernel_rfl) (by first | exact panic_put (d:=25) (by decide) (by decide) | exact panic_put2 (d:=25) (by decide) (by decide)) (Or.inl ⟨by rfl,?_⟩) ?_
   rotate_left
   ·intro w;go_simp;first | done | with_reducible rfl
   refine wpAny_take (i:=2) (v := ?_) rfl (by kernel_rfl) (by kernel_rfl) (by kernel_rfl) (by first | exact panic_put (d:=26) (by decide) (by decide) | exact panic_put2 (d:=26) (by decide) (by decide)) (Or.inl ⟨by rfl,?_⟩) ?_
   rotate_left
   ·intro w;go_simp;first | done | with_reducible rfl
   refine wpAny_take (i:=3) (v := ?_) rfl (by kernel_rfl) (by kernel_rfl) (by kernel_rfl) (by first | exact panic_put (d:=27) (by decide) (by decide) | exact panic_put2 (d:=27) (by decide) (by decide)) (Or.inl ⟨by rfl,?_⟩) ?_
   rotate_left
   ·intro w;go_simp;first | done | with_reducible rfl
   refine wpAny_take (i:=4) (v := ?_) rfl (by kernel_rfl) (by kernel_rfl) (by kernel_rfl) (by first | exact panic_put (d:=28) (by decide) (by decide) | exact panic_put2 (d:=28) (by decide) (by decide)) (Or.inl ⟨by rfl,?_⟩) ?_
   rotate_left
   ·intro w;go_simp;first | done | with_reducible rfl
   refine wpAny_ready (rs:=[5,6]) (by kernel_rfl) (by simp) ?_
   refine AllReady.cons rfl (fun K hK=>?_) ?_
   ·go_simp
    refine hK _ _ ?_
    clear hK K
    refine wpAny_ready (rs:=[6]) (by kernel_rfl) (by simp) ?_
    refine AllReady.cons rfl (fun K hK=>?_) AllReady.nil
    go_simp
    refine hK _ _ ?_
    clear hK K
    refine wpAny_ready (rs:=[7]) (by kernel_rfl) (by simp) ?_
    refine AllReady.cons rfl (fun K hK=>?_) AllReady.nil
    refine step_call (by rfl) _ _ _ (by rfl) 127 (by rfl) _ (by rfl) (uh HEN) (uh HA) ?_
    rintro e w1 ⟨hb1,hgv⟩
    obtain⟨ch,rfl⟩:=gave_panic hgv
    exact turn_fails rfl rfl ((uh HI1).below ((Below.refl _ _).drew.trans (hb1.mono nlr))) (uh HH).2.1 hgv (uh HF)
   ·refine AllReady.cons rfl (fun K hK=>?_) AllReady.nil
    go_simp
    refine hK _ _ ?_
    clear hK K
    refine wpAny_ready (rs:=[5]) (by kernel_rfl) (by simp) ?_
    refine AllReady.cons rfl (fun K hK=>?_) AllReady.nil
    go_simp
    refine hK _ _ ?_
    clear hK K
    refine wpAny_ready (rs:=[7]) (by kernel_rfl) (by simp) ?_
    refine AllReady.cons rfl (fun K hK=>?_) AllReady.nil
    refine step_call (by rfl) _ _ _ (by rfl) 127 (by rfl) _ (by rfl) (uh HEN) (uh HA) ?_
    rintro e w1 ⟨hb1,hgv⟩
    obtain⟨ch,rfl⟩:=gave_panic hgv
    exact turn_fails rfl rfl ((uh HI1).below ((Below.refl _ _).drew.trans (hb1.mono nlr))) (uh HH).2.1 hgv (uh HF)
  | some goes =>
   rw[hev] at HA
   have HE1:=hde hev
   clear hev
   apply wp_join (fun w'=>∃ V1,Hid (Below W2.heap.size W2 V1)∧V1=w')
   apply Exists.intro
   apply And.intro
   case left =>
    go_region_law (refine step_call (by rfl) _ _ _ (by rfl) 127 (by rfl) _ (by rfl) (uh HEN) (uh HA) ?_;rintro e w1 ⟨hb1,rfl⟩;dsimp only;have hI1:=(uh HI1).below ((Below.refl _ _).drew.trans (hb1.mono nlr));replace hI1:=hde hI1)
    all_goals exact⟨rfl,rfl,w1,(Below.refl _ _).drew.trans (hb1.mono nlr),rfl⟩
   case right =>
   rintro w' ⟨V1,HB1,rfl⟩
   clear y0 y1 y2 y3 y4 y5 y6 y7 y8 k0 HA
   have HI2:=hde ((uh HI1).below (uh HB1))
   clear HB1
   clear HI1
   have HLO:Hid (∀ (sent:List (Nat × Int)) (b:Value),b.oneCell'=true→(if goes=0 then some [] else Sp.msgs (P.code 2) (E.setV v) Es)=some sent→∀ (W3:World),Hid (TInv w W3 (E.setV v) v b false 0)→Hid (W3.ownsRow (w.heap.size+1+1+1) 2 1 b sent.length (sent.map fun m=>Value.int .i64 m.2))→True):=fun _ _ _ _ _ _ _=>trivial
   clear HLO
   by_cases hgo:goes=0
   ·have HIF:Hid ((if goes=0 then some [] else Sp.msgs (P.code 2) (E.setV v) Es)=some []):=by show _=_;rw[if_pos hgo]
    have hgb:(goes != 0)=false:=by simp[hgo]
    have HR:Hid (V1.ownsRow (w.heap.size+1+1+1) 2 1 (.slice none 0 0) ([]:List (Nat × Int)).length (([]:List (Nat × Int)).map fun m=>Value.int .i64 m.2)):=World.ownsRow_nil _ _ _ _
    clear hgo
    go_upto_region 7 with fail
    obtain⟨g3,cap3,k0,ha⟩:=turn_answer (uh HH).1 (uh HH).2.1 (uh HEV) (uh HI2).bel (i:=3) (by omega)
    have HA:=hde (ha V1.drew (Below.refl _ _).drew)
    have y0:=(uh HI2).si.c0
    have y1:=(uh HI2).si.c1
    have y2:=(uh HI2).si.c2
    have y3:=(uh HI2).si.c3
    have y4:=(uh HI2).si.c4
    have y5:=(uh HI2).si.c5
    have y6:=(uh HI2).si.c6
    have y7:=(uh HI2).si.c7
    have y8:=(uh HI2).si.c8
    clear ha
    cases hev:Sp.ev (P.code 3) (E.setV v) with
    | none =>
     rw[hev] at HA
     have HF:Hid (∀ w',Below w.heap.size w w'→O (.returned noTurn) w'):=by
      show ∀ w',_
      intro w' hb'
      rw[← uh hO]
      have hz:Sp.turnE P E Es=none:=by
       unfold Sp.turnE
       rw[uh HE0]
       simp only
       rw[uh HE1]
       simp only
       rw[uh HIF]
       simp only
       unfold Sp.tail34
       rw[hev]
      rw[hz]
      exact⟨hb',rfl⟩
     clear hev
     refine wp_region_any (by kernel_rfl) ?_
     change wpAny _ _ _ _ _ _ _ (World.drew _)
     refine wpAny_take (i:=0) (v := ?_) rfl (by kernel_rfl) (by kernel_rfl) (by kernel_rfl) (by first | exact panic_put (d:=38) (by decide) (by decide) | exact panic_put2 (d:=38) (by decide) (by decide)) (Or.inl ⟨by rfl,?_⟩) ?_
     rotate_left
     ·intro w;go_simp;first | done | with_reducible rfl
     refine wpAny_take (i:=1) (v := ?_) rfl (by kernel_rfl) (by kernel_rfl) (by kernel_rfl) (by first | exact panic_put (d:=39) (by decide) (by decide) | exact panic_put2 (d:=39) (by decide) (by decide)) (Or.inl ⟨by rfl,?_⟩) ?_
     rotate_left
     ·intro w;go_simp;first | done | with_reducible rfl
     refine wpAny_take (i:=2) (v := ?_) rfl (by kernel_rfl) (by kernel_rfl) (by kernel_rfl) (by first | exact panic_put (d:=40) (by decide) (by decide) | exact panic_put2 (d:=40) (by decide) (by decide)) (Or.inl ⟨by rfl,?_⟩) ?_
     rotate_left
     ·intro w;go_simp;first | done | with_reducible rfl
     refine wpAny_take (i:=3) (v := ?_) rfl (by kernel_rfl) (by kernel_rfl) (by kernel_rfl) (by first | exact panic_put (d:=41) (by decide) (by decide) | exact panic_put2 (d:=41) (by decide) (by decide)) (Or.inl ⟨by rfl,?_⟩) ?_
     rotate_left
     ·intro w;go_simp;first | done | with_reducible rfl
     refine wpAny_take (i:=4) (v := ?_) rfl (by kernel_rfl) (by kernel_rfl) (by kernel_rfl) (by first | exact panic_put (d:=42) (by decide) (by decide) | exact panic_put2 (d:=42) (by decide) (by decide)) (Or.inl ⟨by rfl,?_⟩) ?_
     rotate_left
     ·intro w;go_simp;first | done | with_reducible rfl
     refine wpAny_ready (rs:=[5,6]) (by kernel_rfl) (by simp) ?_
     refine AllReady.cons rfl (fun K hK=>?_) ?_
     ·go_simp
      refine hK _ _ ?_
      clear hK K
      refine wpAny_ready (rs:=[6]) (by kernel_rfl) (by simp) ?_
      refine AllReady.cons rfl (fun K hK=>?_) AllReady.nil
      go_simp
      refine hK _ _ ?_
      clear hK K
      refine wpAny_ready (rs:=[7]) (by kernel_rfl) (by simp) ?_
      refine AllReady.cons rfl (fun K hK=>?_) AllReady.nil
      refine step_call (by rfl) _ _ _ (by rfl) 127 (by rfl) _ (by rfl) (uh HEN) (uh HA) ?_
      rintro e w1 ⟨hb1,hgv⟩
      obtain⟨ch,rfl⟩:=gave_panic hgv
      exact turn_fails rfl rfl ((uh HI2).below ((Below.refl _ _).drew.trans (hb1.mono nlr))) (uh HH).2.1 hgv (uh HF)
     ·refine AllReady.cons rfl (fun K hK=>?_) AllReady.nil
      go_simp
      refine hK _ _ ?_
      clear hK K
      refine wpAny_ready (rs:=[5]) (by kernel_rfl) (by simp) ?_
      refine AllReady.cons rfl (fun K hK=>?_) AllReady.nil
      go_simp
      refine hK _ _ ?_
      clear hK K
      refine wpAny_ready (rs:=[7]) (by kernel_rfl) (by simp) ?_
      refine AllReady.cons rfl (fun K hK=>?_) AllReady.nil
      refine step_call (by rfl) _ _ _ (by rfl) 127 (by rfl) _ (by rfl) (uh HEN) (uh HA) ?_
      rintro e w1 ⟨hb1,hgv⟩
      obtain⟨ch,rfl⟩:=gave_panic hgv
      exact turn_fails rfl rfl ((uh HI2).below ((Below.refl _ _).drew.trans (hb1.mono nlr))) (uh HH).2.1 hgv (uh HF)
    | some hh =>
     rw[hev] at HA
     have HE3:=hde hev
     clear hev
     apply wp_join (fun w'=>∃ w1,Hid (Below V1.heap.size V1 w1)∧w'=w1.setCell ⟨w.heap.size+1,2,none⟩ (.bool (hh != 0)))
     apply Exists.intro
     apply And.intro
     case left =>
      go_region_law (refine step_call (by rfl) _ _ _ (by rfl) 127 (by rfl) _ (by rfl) (uh HEN) (uh HA) ?_;rintro e w1 ⟨hb1,rfl⟩;dsimp only;have hI1:=(uh HI2).below ((Below.refl _ _).drew.trans (hb1.mono nlr));have k1:=hI1.tu.c2;have k2:=hI1.tu.fz 2;replace hI1:=hde hI1)
      all_goals exact⟨rfl,rfl,w1,(Below.refl _ _).drew.trans (hb1.mono nlr),rfl⟩
     case right =>
     rintro w' ⟨w1,HB1,rfl⟩
     clear y0 y1 y2 y3 y4 y5 y6 y7 y8 k0 HA
     have HI4:=hde (((uh HI2).below (uh HB1)).s2 (hh != 0))
     have HR4:=hde (ownsRow_setCell_below (obl (uh HR) (uh HB1)) (a:=⟨w.heap.size+1,2,none⟩) (by show w.heap.size+1 < w.heap.size+1+1+1;omega) (.bool (hh != 0)))
     clear HB1
     clear HI2
     generalize w1.setCell _ _=W4 at HI4 HR4 ⊢
     go_upto_region 8 with fail
     obtain⟨g4,cap4,k0,ha⟩:=turn_answer (uh HH).1 (uh HH).2.1 (uh HEV) (uh HI4).bel (i:=4) (by omega)
     have HA:=hde (ha W4.drew (Below.refl _ _).drew)
     have y0:=(uh HI4).si.c0
     have y1:=(uh HI4).si.c1
     have y2:=(uh HI4).si.c2
     have y3:=(uh HI4).si.c3
     have y4:=(uh HI4).si.c4
     have y5:=(uh HI4).si.c5
     have y6:=(uh HI4).si.c6
     have y7:=(uh HI4).si.c7
     have y8:=(uh HI4).si.c8
     clear ha
     cases hev:Sp.ev (P.code 4) (E.setV v) with
     | none =>
      rw[hev] at HA
      have HF:Hid (∀ w',Below w.heap.size w w'→O (.returned noTurn) w'):=by
       show ∀ w',_
       intro w' hb'
       rw[← uh hO]
       have hz:Sp.turnE P E Es=none:=by
        unfold Sp.turnE
        rw[uh HE0]
        simp only
        rw[uh HE1]
        simp only
        rw[uh HIF]
        simp only
        unfold Sp.tail34
        rw[uh HE3]
        simp only
        rw[hev]
       rw[hz]
       exact⟨hb',rfl⟩
      clear hev
      refine wp_region_any (by kernel_rfl) ?_
      change wpAny _ _ _ _ _ _ _ (World.drew _)
      refine wpAny_take (i:=0) (v := ?_) rfl (by kernel_rfl) (by kernel_rfl) (by kernel_rfl) (by first | exact panic_put (d:=48) (by decide) (by decide) | exact panic_put2 (d:=48) (by decide) (by decide)) (Or.inl ⟨by rfl,?_⟩) ?_
      rotate_left
      ·intro w;go_simp;first | done | with_reducible rfl
      refine wpAny_take (i:=1) (v := ?_) rfl (by kernel_rfl) (by kernel_rfl) (by kernel_rfl) (by first | exact panic_put (d:=49) (by decide) (by decide) | exact panic_put2 (d:=49) (by decide) (by decide)) (Or.inl ⟨by rfl,?_⟩) ?_
      rotate_left
      ·intro w;go_simp;first | done | with_reducible rfl
      refine wpAny_take (i:=2) (v := ?_) rfl (by kernel_rfl) (by kernel_rfl) (by kernel_rfl) (by first | exact panic_put (d:=50) (by decide) (by decide) | exact panic_put2 (d:=50) (by decide) (by decide)) (Or.inl ⟨by rfl,?_⟩) ?_
      rotate_left
      ·intro w;go_simp;first | done | with_reducible rfl
      refine wpAny_take (i:=3) (v := ?_) rfl (by kernel_rfl) (by kernel_rfl) (by kernel_rfl) (by first | exact panic_put (d:=51) (by decide) (by decide) | exact panic_put2 (d:=51) (by decide) (by decide)) (Or.inl ⟨by rfl,?_⟩) ?_
      rotate_left
      ·intro w;go_simp;first | done | with_reducible rfl
      refine wpAny_take (i:=4) (v := ?_) rfl (by kernel_rfl) (by kernel_rfl) (by kernel_rfl) (by first | exact panic_put (d:=52) (by decide) (by decide) | exact panic_put2 (d:=52) (by decide) (by decide)) (Or.inl ⟨by rfl,?_⟩) ?_
      rotate_left
      ·intro w;go_simp;first | done | with_reducible rfl
      refine wpAny_ready (rs:=[5,6]) (by kernel_rfl) (by simp) ?_
      refine AllReady.cons rfl (fun K hK=>?_) ?_
      ·go_simp
       refine hK _ _ ?_
       clear hK K
       refine wpAny_ready (rs:=[6]) (by kernel_rfl) (by simp) ?_
       refine AllReady.cons rfl (fun K hK=>?_) AllReady.nil
       go_simp
       refine hK _ _ ?_
       clear hK K
       refine wpAny_ready (rs:=[7]) (by kernel_rfl) (by simp) ?_
       refine AllReady.cons rfl (fun K hK=>?_) AllReady.nil
       refine step_call (by rfl) _ _ _ (by rfl) 127 (by rfl) _ (by rfl) (uh HEN) (uh HA) ?_
       rintro e w1 ⟨hb1,hgv⟩
       obtain⟨ch,rfl⟩:=gave_panic hgv
       exact turn_fails rfl rfl ((uh HI4).below ((Below.refl _ _).drew.trans (hb1.mono nlr))) (uh HH).2.1 hgv (uh HF)
      ·refine AllReady.cons rfl (fun K hK=>?_) AllReady.nil
       go_simp
       refine hK _ _ ?_
       clear hK K
       refine wpAny_ready (rs:=[5]) (by kernel_rfl) (by simp) ?_
       refine AllReady.cons rfl (fun K hK=>?_) AllReady.nil
       go_simp
       refine hK _ _ ?_
       clear hK K
       refine wpAny_ready (rs:=[7]) (by kernel_rfl) (by simp) ?_
       refine AllReady.cons rfl (fun K hK=>?_) AllReady.nil
       refine step_call (by rfl) _ _ _ (by rfl) 127 (by rfl) _ (by rfl) (uh HEN) (uh HA) ?_
       rintro e w1 ⟨hb1,hgv⟩
       obtain⟨ch,rfl⟩:=gave_panic hgv
       exact turn_fails rfl rfl ((uh HI4).below ((Below.refl _ _).drew.trans (hb1.mono nlr))) (uh HH).2.1 hgv (uh HF)
     | some gg =>
      rw[hev] at HA
      have HE4:=hde hev
      clear hev
      apply wp_join (fun w'=>∃ w1,Hid (Below W4.heap.size W4 w1)∧w'=w1.setCell ⟨w.heap.size+1,3,none⟩ (.int .i64 gg))
      apply Exists.intro
      apply And.intro
      case left =>
       go_region_law (refine step_call (by rfl) _ _ _ (by rfl) 127 (by rfl) _ (by rfl) (uh HEN) (uh HA) ?_;rintro e w1 ⟨hb1,rfl⟩;dsimp only;have hI1:=(uh HI4).below ((Below.refl _ _).drew.trans (hb1.mono nlr));have k1:=hI1.tu.c3;have k2:=hI1.tu.fz 3;replace hI1:=hde hI1)
       all_goals exact⟨rfl,rfl,w1,(Below.refl _ _).drew.trans (hb1.mono nlr),rfl⟩
      case right =>
      rintro w' ⟨w1,HB1,rfl⟩
      clear y0 y1 y2 y3 y4 y5 y6 y7 y8 k0 HA
      have HI5:=hde (((uh HI4).below (uh HB1)).s3 gg)
      have HR5:=hde (ownsRow_setCell_below (obl (uh HR4) (uh HB1)) (a:=⟨w.heap.size+1,3,none⟩) (by show w.heap.size+1 < w.heap.size+1+1+1;omega) (.int .i64 gg))
      clear HB1
      clear HI4 HR4
      generalize w1.setCell _ _=W5 at HI5 HR5 ⊢
      have HFIN:=hde (turn_final (uh hO) (t:=⟨v,hh != 0,gg,[]⟩) (by
       unfold Sp.turnE
       rw[uh HE0]
       simp only
       rw[uh HE1]
       simp only
       rw[uh HIF]
       simp only
       unfold Sp.tail34
       rw[uh HE3]
       simp only
       rw[uh HE4]
      ) (((((uh HI5).s0 v).s1 (.slice none 0 0)).s2 (hh != 0)).s3 gg) (ownsRow_setCell_below (ownsRow_setCell_below (ownsRow_setCell_below (ownsRow_setCell_below (uh HR5) (a:=⟨w.heap.size+1,0,none⟩) (by show w.heap.size+1 < w.heap.size+1+1+1;omega) (.int .i64 v)) (a:=⟨w.heap.size+1,1,none⟩) (by show w.heap.size+1 < w.heap.size+1+1+1;omega) (.slice none 0 0)) (a:=⟨w.heap.size+1,2,none⟩) (by show w.heap.size+1 < w.heap.size+1+1+1;omega) (.bool (hh != 0))) (a:=⟨w.heap.size+1,3,none⟩) (by show w.heap.size+1 < w.heap.size+1+1+1;omega) (.int .i64 gg)) rfl)
      have x0:=(uh HI5).tu.c0
      have x1:=(uh HI5).tu.c1
      have x2:=(uh HI5).tu.c2
      have x3:=(uh HI5).tu.c3
      have x4:=(uh HI5).tu.ck
      have x5:=(uh HI5).tu.fz 0
      have x6:=(uh HI5).tu.fz 1
      have x7:=(uh HI5).tu.fz 2
      have x8:=(uh HI5).tu.fz 3
      have x9:=(uh HI5).tu.fk
      clear HI5 HR5
      go_wp2
      exact uh HFIN _ rfl rfl
   ·have hgb:(goes != 0)=true:=by simp[hgo]
    have HM:Hid (Calls Tryz.prog 128 #[.pointer (some ⟨B,0,none⟩),sightV (E.setV v),.slice pe Es.length cap] V1 (MsPost (Sp.msgs (P.code 2) (E.setV v) Es) z f V1)):=by
     have hb:=(uh HI2).bel
     exact messages_any B P (E.setV v) Es pe cap z f V1 ((uh HH).1.below hb) ((uh HH).2.1.below hb) (uh HEV) ((uh HH).2.2.2.1.below hb) (uh HH).2.2.2.2 hl
    have y0:=(uh HI2).si.c0
    have y1:=(uh HI2).si.c1
    have y2:=(uh HI2).si.c2
    have y3:=(uh HI2).si.c3
    have y4:=(uh HI2).si.c4
    have y5:=(uh HI2).si.c5
    have y6:=(uh HI2).si.c6
    have y7:=(uh HI2).si.c7
    have y8:=(uh HI2).si.c8
    cases hms:Sp.msgs (P.code 2) (E.setV v) Es with
    | none =>
     rw[hms] at HM
     have HF:Hid (∀ w',Below w.heap.size w w'→O (.returned noTurn) w'):=by
      show ∀ w',_
      intro w' hb'
      rw[← uh hO]
      have hz:Sp.turnE P E Es=none:=by
       unfold Sp.turnE
       rw[uh HE0]
       simp only
       rw[uh HE1]
       simp only
       rw[if_neg hgo,hms]
      rw[hz]
      exact⟨hb',rfl⟩
     clear hms hgo
     go_wp2_with fail
     refine(uh HM).mono ?_
     rintro e w2 ⟨hb2,hgv⟩
     obtain⟨ch,rfl⟩:=gave_panic hgv
     exact turn_fails rfl rfl ((uh HI2).below hb2) (uh HH).2.1 hgv (uh HF)
    | some sent =>
     rw[hms] at HM
     have HIF:Hid ((if goes=0 then some [] else Sp.msgs (P.code 2) (E.setV v) Es)=some sent):=by show _=_;rw[if_neg hgo,hms]
     clear hms hgo
     go_wp2_with fail
     refine(uh HM).mono ?_
     rintro e w2 ⟨hb2,b,rfl,hrow⟩
     have hK3:w.heap.size+1+1+1≤V1.heap.size:=(uh HI2).tu.ltK
     have HI3:=hde ((uh HI2).below hb2)
     have HR:=hde (ownsRow_setCell_below (own_low hrow hK3) (a:=⟨w.heap.size+1,1,none⟩) (by show w.heap.size+1 < w.heap.size+1+1+1;omega) b)
     obtain⟨pb,kb,rfl,_⟩:=osl hrow
     have k1:=(uh HI3).tu.c1
     have k2:=(uh HI3).tu.fz 1
     clear HI2 HM y0 y1 y2 y3 y4 y5 y6 y7 y8 hrow hb2 hK3
     go_upto_region 7 with fail
     replace HI3:=hde ((uh HI3).s1 (.slice pb sent.length kb))
     clear k1 k2
     generalize w2.setCell _ _=W3 at HI3 HR ⊢
     obtain⟨g3,cap3,k0,ha⟩:=turn_answer (uh HH).1 (uh HH).2.1 (uh HEV) (uh HI3).bel (i:=3) (by omega)
     have HA:=hde (ha W3.drew (Below.refl _ _).drew)
     have y0:=(uh HI3).si.c0
     have y1:=(uh HI3).si.c1
     have y2:=(uh HI3).si.c2
     have y3:=(uh HI3).si.c3
     have y4:=(uh HI3).si.c4
     have y5:=(uh HI3).si.c5
     have y6:=(uh HI3).si.c6
     have y7:=(uh HI3).si.c7
     have y8:=(uh HI3).si.c8
     clear ha
     cases hev:Sp.ev (P.code 3) (E.setV v) with
     | none =>
      rw[hev] at HA
      have HF:Hid (∀ w',Below w.heap.size w w'→O (.returned noTurn) w'):=by
       show ∀ w',_
       intro w' hb'
       rw[← uh hO]
       have hz:Sp.turnE P E Es=none:=by
        unfold Sp.turnE
        rw[uh HE0]
        simp only
        rw[uh HE1]
        simp only
        rw[uh HIF]
        simp only
        unfold Sp.tail34
        rw[hev]
       rw[hz]
       exact⟨hb',rfl⟩
      clear hev
      refine wp_region_any (by kernel_rfl) ?_
      change wpAny _ _ _ _ _ _ _ (World.drew _)
      refine wpAny_take (i:=0) (v := ?_) rfl (by kernel_rfl) (by kernel_rfl) (by kernel_rfl) (by first | exact panic_put (d:=38) (by decide) (by decide) | exact panic_put2 (d:=38) (by decide) (by decide)) (Or.inl ⟨by rfl,?_⟩) ?_
      rotate_left
      ·intro w;go_simp;first | done | with_reducible rfl
      refine wpAny_take (i:=1) (v := ?_) rfl (by kernel_rfl) (by kernel_rfl) (by kernel_rfl) (by first | exact panic_put (d:=39) (by decide) (by decide) | exact panic_put2 (d:=39) (by decide) (by decide)) (Or.inl ⟨by rfl,?_⟩) ?_
      rotate_left
      ·intro w;go_simp;first | done | with_reducible rfl
      refine wpAny_take (i:=2) (v := ?_) rfl (by kernel_rfl) (by kernel_rfl) (by kernel_rfl) (by first | exact panic_put (d:=40) (by decide) (by decide) | exact panic_put2 (d:=40) (by decide) (by decide)) (Or.inl ⟨by rfl,?_⟩) ?_
      rotate_left
      ·intro w;go_simp;first | done | with_reducible rfl
      refine wpAny_take (i:=3) (v := ?_) rfl (by kernel_rfl) (by kernel_rfl) (by kernel_rfl) (by first | exact panic_put (d:=41) (by decide) (by decide) | exact panic_put2 (d:=41) (by decide) (by decide)) (Or.inl ⟨by rfl,?_⟩) ?_
      rotate_left
      ·intro w;go_simp;first | done | with_reducible rfl
      refine wpAny_take (i:=4) (v := ?_) rfl (by kernel_rfl) (by kernel_rfl) (by kernel_rfl) (by first | exact panic_put (d:=42) (by decide) (by decide) | exact panic_put2 (d:=42) (by decide) (by decide)) (Or.inl ⟨by rfl,?_⟩) ?_
      rotate_left
      ·intro w;go_simp;first | done | with_reducible rfl
      refine wpAny_ready (rs:=[5,6]) (by kernel_rfl) (by simp) ?_
      refine AllReady.cons rfl (fun K hK=>?_) ?_
      ·go_simp
       refine hK _ _ ?_
       clear hK K
       refine wpAny_ready (rs:=[6]) (by kernel_rfl) (by simp) ?_
       refine AllReady.cons rfl (fun K hK=>?_) AllReady.nil
       go_simp
       refine hK _ _ ?_
       clear hK K
       refine wpAny_ready (rs:=[7]) (by kernel_rfl) (by simp) ?_
       refine AllReady.cons rfl (fun K hK=>?_) AllReady.nil
       refine step_call (by rfl) _ _ _ (by rfl) 127 (by rfl) _ (by rfl) (uh HEN) (uh HA) ?_
       rintro e w1 ⟨hb1,hgv⟩
       obtain⟨ch,rfl⟩:=gave_panic hgv
       exact turn_fails rfl rfl ((uh HI3).below ((Below.refl _ _).drew.trans (hb1.mono nlr))) (uh HH).2.1 hgv (uh HF)
      ·refine AllReady.cons rfl (fun K hK=>?_) AllReady.nil
       go_simp
       refine hK _ _ ?_
       clear hK K
       refine wpAny_ready (rs:=[5]) (by kernel_rfl) (by simp) ?_
       refine AllReady.cons rfl (fun K hK=>?_) AllReady.nil
       go_simp
       refine hK _ _ ?_
       clear hK K
       refine wpAny_ready (rs:=[7]) (by kernel_rfl) (by simp) ?_
       refine AllReady.cons rfl (fun K hK=>?_) AllReady.nil
       refine step_call (by rfl) _ _ _ (by rfl) 127 (by rfl) _ (by rfl) (uh HEN) (uh HA) ?_
       rintro e w1 ⟨hb1,hgv⟩
       obtain⟨ch,rfl⟩:=gave_panic hgv
       exact turn_fails rfl rfl ((uh HI3).below ((Below.refl _ _).drew.trans (hb1.mono nlr))) (uh HH).2.1 hgv (uh HF)
     | some hh =>
      rw[hev] at HA
      have HE3:=hde hev
      clear hev
      apply wp_join (fun w'=>∃ w1,Hid (Below W3.heap.size W3 w1)∧w'=w1.setCell ⟨w.heap.size+1,2,none⟩ (.bool (hh != 0)))
      apply Exists.intro
      apply And.intro
      case left =>
       go_region_law (refine step_call (by rfl) _ _ _ (by rfl) 127 (by rfl) _ (by rfl) (uh HEN) (uh HA) ?_;rintro e w1 ⟨hb1,rfl⟩;dsimp only;have hI1:=(uh HI3).below ((Below.refl _ _).drew.trans (hb1.mono nlr));have k1:=hI1.tu.c2;have k2:=hI1.tu.fz 2;replace hI1:=hde hI1)
       all_goals exact⟨rfl,rfl,w1,(Below.refl _ _).drew.trans (hb1.mono nlr),rfl⟩
      case right =>
      rintro w' ⟨w1,HB1,rfl⟩
      clear y0 y1 y2 y3 y4 y5 y6 y7 y8 k0 HA
      have HI4:=hde (((uh HI3).below (uh HB1)).s2 (hh != 0))
      have HR4:=hde (ownsRow_setCell_below (obl (uh HR) (uh HB1)) (a:=⟨w.heap.size+1,2,none⟩) (by show w.heap.size+1 < w.heap.size+1+1+1;omega) (.bool (hh != 0)))
      clear HB1
      clear HI3
      generalize w1.setCell _ _=W4 at HI4 HR4 ⊢
      go_upto_region 8 with fail
      obtain⟨g4,cap4,k0,ha⟩:=turn_answer (uh HH).1 (uh HH).2.1 (uh HEV) (uh HI4).bel (i:=4) (by omega)
      have HA:=hde (ha W4.drew (Below.refl _ _).drew)
      have y0:=(uh HI4).si.c0
      have y1:=(uh HI4).si.c1
      have y2:=(uh HI4).si.c2
      have y3:=(uh HI4).si.c3
      have y4:=(uh HI4).si.c4
      have y5:=(uh HI4).si.c5
      have y6:=(uh HI4).si.c6
      have y7:=(uh HI4).si.c7
      have y8:=(uh HI4).si.c8
      clear ha
      cases hev:Sp.ev (P.code 4) (E.setV v) with
      | none =>
       rw[hev] at HA
       have HF:Hid (∀ w',Below w.heap.size w w'→O (.returned noTurn) w'):=by
        show ∀ w',_
        intro w' hb'
        rw[← uh hO]
        have hz:Sp.turnE P E Es=none:=by
         unfold Sp.turnE
         rw[uh HE0]
         simp only
         rw[uh HE1]
         simp only
         rw[uh HIF]
         simp only
         unfold Sp.tail34
         rw[uh HE3]
         simp only
         rw[hev]
        rw[hz]
        exact⟨hb',rfl⟩
       clear hev
       refine wp_region_any (by kernel_rfl) ?_
       change wpAny _ _ _ _ _ _ _ (World.drew _)
       refine wpAny_take (i:=0) (v := ?_) rfl (by kernel_rfl) (by kernel_rfl) (by kernel_rfl) (by first | exact panic_put (d:=48) (by decide) (by decide) | exact panic_put2 (d:=48) (by decide) (by decide)) (Or.inl ⟨by rfl,?_⟩) ?_
       rotate_left
       ·intro w;go_simp;first | done | with_reducible rfl
       refine wpAny_take (i:=1) (v := ?_) rfl (by kernel_rfl) (by kernel_rfl) (by kernel_rfl) (by first | exact panic_put (d:=49) (by decide) (by decide) | exact panic_put2 (d:=49) (by decide) (by decide)) (Or.inl ⟨by rfl,?_⟩) ?_
       rotate_left
       ·intro w;go_simp;first | done | with_reducible rfl
       refine wpAny_take (i:=2) (v := ?_) rfl (by kernel_rfl) (by kernel_rfl) (by kernel_rfl) (by first | exact panic_put (d:=50) (by decide) (by decide) | exact panic_put2 (d:=50) (by decide) (by decide)) (Or.inl ⟨by rfl,?_⟩) ?_
       rotate_left
       ·intro w;go_simp;first | done | with_reducible rfl
       refine wpAny_take (i:=3) (v := ?_) rfl (by kernel_rfl) (by kernel_rfl) (by kernel_rfl) (by first | exact panic_put (d:=51) (by decide) (by decide) | exact panic_put2 (d:=51) (by decide) (by decide)) (Or.inl ⟨by rfl,?_⟩) ?_
       rotate_left
       ·intro w;go_simp;first | done | with_reducible rfl
       refine wpAny_take (i:=4) (v := ?_) rfl (by kernel_rfl) (by kernel_rfl) (by kernel_rfl) (by first | exact panic_put (d:=52) (by decide) (by decide) | exact panic_put2 (d:=52) (by decide) (by decide)) (Or.inl ⟨by rfl,?_⟩) ?_
       rotate_left
       ·intro w;go_simp;first | done | with_reducible rfl
       refine wpAny_ready (rs:=[5,6]) (by kernel_rfl) (by simp) ?_
       refine AllReady.cons rfl (fun K hK=>?_) ?_
       ·go_simp
        refine hK _ _ ?_
        clear hK K
        refine wpAny_ready (rs:=[6]) (by kernel_rfl) (by simp) ?_
        refine AllReady.cons rfl (fun K hK=>?_) AllReady.nil
        go_simp
        refine hK _ _ ?_
        clear hK K
        refine wpAny_ready (rs:=[7]) (by kernel_rfl) (by simp) ?_
        refine AllReady.cons rfl (fun K hK=>?_) AllReady.nil
        refine step_call (by rfl) _ _ _ (by rfl) 127 (by rfl) _ (by rfl) (uh HEN) (uh HA) ?_
        rintro e w1 ⟨hb1,hgv⟩
        obtain⟨ch,rfl⟩:=gave_panic hgv
        exact turn_fails rfl rfl ((uh HI4).below ((Below.refl _ _).drew.trans (hb1.mono nlr))) (uh HH).2.1 hgv (uh HF)
       ·refine AllReady.cons rfl (fun K hK=>?_) AllReady.nil
        go_simp
        refine hK _ _ ?_
        clear hK K
        refine wpAny_ready (rs:=[5]) (by kernel_rfl) (by simp) ?_
        refine AllReady.cons rfl (fun K hK=>?_) AllReady.nil
        go_simp
        refine hK _ _ ?_
        clear hK K
        refine wpAny_ready (rs:=[7]) (by kernel_rfl) (by simp) ?_
        refine AllReady.cons rfl (fun K hK=>?_) AllReady.nil
        refine step_call (by rfl) _ _ _ (by rfl) 127 (by rfl) _ (by rfl) (uh HEN) (uh HA) ?_
        rintro e w1 ⟨hb1,hgv⟩
        obtain⟨ch,rfl⟩:=gave_panic hgv
        exact turn_fails rfl rfl ((uh HI4).below ((Below.refl _ _).drew.trans (hb1.mono nlr))) (uh HH).2.1 hgv (uh HF)
      | some gg =>
       rw[hev] at HA
       have HE4:=hde hev
       clear hev
       apply wp_join (fun w'=>∃ w1,Hid (Below W4.heap.size W4 w1)∧w'=w1.setCell ⟨w.heap.size+1,3,none⟩ (.int .i64 gg))
       apply Exists.intro
       apply And.intro
       case left =>
        go_region_law (refine step_call (by rfl) _ _ _ (by rfl) 127 (by rfl) _ (by rfl) (uh HEN) (uh HA) ?_;rintro e w1 ⟨hb1,rfl⟩;dsimp only;have hI1:=(uh HI4).below ((Below.refl _ _).drew.trans (hb1.mono nlr));have k1:=hI1.tu.c3;have k2:=hI1.tu.fz 3;replace hI1:=hde hI1)
        all_goals exact⟨rfl,rfl,w1,(Below.refl _ _).drew.trans (hb1.mono nlr),rfl⟩
       case right =>
       rintro w' ⟨w1,HB1,rfl⟩
       clear y0 y1 y2 y3 y4 y5 y6 y7 y8 k0 HA
       have HI5:=hde (((uh HI4).below (uh HB1)).s3 gg)
       have HR5:=hde (ownsRow_setCell_below (obl (uh HR4) (uh HB1)) (a:=⟨w.heap.size+1,3,none⟩) (by show w.heap.size+1 < w.heap.size+1+1+1;omega) (.int .i64 gg))
       clear HB1
       clear HI4 HR4
       generalize w1.setCell _ _=W5 at HI5 HR5 ⊢
       have HFIN:=hde (turn_final (uh hO) (t:=⟨v,hh != 0,gg,sent⟩) (by
        unfold Sp.turnE
        rw[uh HE0]
        simp only
        rw[uh HE1]
        simp only
        rw[uh HIF]
        simp only
        unfold Sp.tail34
        rw[uh HE3]
        simp only
        rw[uh HE4]
       ) (((((uh HI5).s0 v).s1 (.slice pb sent.length kb)).s2 (hh != 0)).s3 gg) (ownsRow_setCell_below (ownsRow_setCell_below (ownsRow_setCell_below (ownsRow_setCell_below (uh HR5) (a:=⟨w.heap.size+1,0,none⟩) (by show w.heap.size+1 < w.heap.size+1+1+1;omega) (.int .i64 v)) (a:=⟨w.heap.size+1,1,none⟩) (by show w.heap.size+1 < w.heap.size+1+1+1;omega) (.slice pb sent.length kb)) (a:=⟨w.heap.size+1,2,none⟩) (by show w.heap.size+1 < w.heap.size+1+1+1;omega) (.bool (hh != 0))) (a:=⟨w.heap.size+1,3,none⟩) (by show w.heap.size+1 < w.heap.size+1+1+1;omega) (.int .i64 gg)) rfl)
       have x0:=(uh HI5).tu.c0
       have x1:=(uh HI5).tu.c1
       have x2:=(uh HI5).tu.c2
       have x3:=(uh HI5).tu.c3
       have x4:=(uh HI5).tu.ck
       have x5:=(uh HI5).tu.fz 0
       have x6:=(uh HI5).tu.fz 1
       have x7:=(uh HI5).tu.fz 2
       have x8:=(uh HI5).tu.fz 3
       have x9:=(uh HI5).tu.fk
       clear HI5 HR5
       go_wp2
       exact uh HFIN _ rfl rfl
end Go.Proofs.YteflnddphpjahaaGreatDoor
