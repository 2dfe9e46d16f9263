import Derived.Test.YteflnddphpjahaaGreatDoorClSrtLtoMkA
import Derived.Test.YteflnddphpjahaaGreatDoorClMkBtoPrC
import Derived.Test.YteflnddphpjahaaGreatDoorClRrAtoCqT
import Derived.Test.YteflnddphpjahaaGreatDoorClRqFtoRqJ
import Derived.Test.YteflnddphpjahaaGreatDoorClRqGtoSrtD
set_option linter.unusedVariables false
set_option linter.unusedSimpArgs false
set_option maxRecDepth 100000
set_option maxHeartbeats 16000000
namespace Go.Proofs.YteflnddphpjahaaGreatDoor
open Go.RowKit
def nls (s:ByteArray):List Int:=match Sp.parseSpec s with | .error _=>[] | .ok L=>(Sp.vs L (Sp.nv L)).map (·.frm)
def vls (s:ByteArray):List Int:=match Sp.parseSpec s with | .error _=>[] | .ok L=>(Sp.vs L (Sp.nv L)).map (·.n)
def els (s:ByteArray):List Sp.Ed:=match Sp.parseSpec s with | .error _=>[] | .ok L=>Sp.es L (Sp.nv L) (Sp.nv L)
def eno (s:ByteArray):Int:=match Sp.parseSpec s with | .error (a,_)=>a | .ok _=>0
def eat (s:ByteArray):Int:=match Sp.parseSpec s with | .error (_,b)=>b | .ok _=>0
theorem parse_form {s:ByteArray} {w w':World} {e:Ending} (h:ParsePost s w e w'):Below w.heap.size w w'∧∃ v u x,e = .returned (.tuple #[graphVal v u x,.int .i64 (eno s),.int .i64 (eat s)]) ∧
  w'.ownsRow w.heap.size 21 1 v (nls s).length ((nls s).map (Value.int .i32))∧w'.ownsRow w.heap.size 2 1 u (vls s).length ((vls s).map (Value.int .i64))∧w'.ownsRow w.heap.size 67 3 x (els s).length (edCells (els s)):=by
 obtain⟨hb,hm⟩:=h
 refine⟨hb,?_⟩
 unfold nls vls els eno eat
 cases hp:Sp.parseSpec s with
 | error ab =>
  obtain⟨a,b⟩:=ab
  rw[hp] at hm
  exact⟨_,_,_,hm,World.ownsRow_nil _ _ _ _,World.ownsRow_nil _ _ _ _,World.ownsRow_nil _ _ _ _⟩
 | ok L =>
  rw[hp] at hm
  obtain⟨v,u,x,he,r0,r1,r2⟩:=hm
  exact⟨v,u,x,he,by simpa using r0,by simpa using r1,r2⟩
theorem small_form {s:ByteArray} (h:Small s):(nls s).length≤64∧(vls s).length≤64∧(els s).length≤256:=by
 unfold nls vls els
 cases hp:Sp.parseSpec s with
 | error ab=>simp
 | ok L =>
  have:=h L hp
  simp
  omega
theorem nls_len (s:ByteArray):(nls s).length=(vls s).length:=by
 unfold nls vls
 cases Sp.parseSpec s with
 | error ab=>rfl
 | ok L=>simp
theorem eno_zero {s:ByteArray} (h:eno s=0):∃ L,Sp.parseSpec s = .ok L:=by
 unfold eno at h
 cases hp:Sp.parseSpec s with
 | ok L=>exact⟨L,rfl⟩
 | error ab =>
  exfalso
  obtain⟨a,b⟩:=ab
  rw[hp] at h
  simp only at h
  subst h
  by_cases c:4000 < s.size
  ·rw[spec_long c] at hp;cases hp
  ·cases hb:Sp.bad s with
   | some i=>rw[spec_bad c hb] at hp;cases hp
   | none =>
    cases hl:Sp.plFrom (Sp.split s 10) 0 [] with
    | error k=>rw[spec_form c hb hl] at hp;cases hp
    | ok P =>
     rw[spec_read c hb hl] at hp
     split at hp
     ·cases hp
     ·rename_i hne
      injection hp with hp
      rw[hp] at hne
      exact hne rfl
theorem job_ok {g p:ByteArray} (hg:eno g=0) (hp:(Sp.comp p).1=0) (hsm:Small g):Sp.JobOk (Sp.pgOf p) (els g) (vls g).length∧∀ x ∈ vls g,Sp.i64 x:=by
 obtain⟨L,hL⟩:=eno_zero hg
 obtain⟨f1,f2,f3⟩:=parse_facts hL
 have e1:vls g=(Sp.vs L (Sp.nv L)).map (·.n):=by unfold vls;rw[hL]
 have e2:els g=Sp.es L (Sp.nv L) (Sp.nv L):=by unfold els;rw[hL]
 have hlen:(vls g).length=Sp.nv L:=by rw[e1,List.length_map,f1]
 refine⟨⟨fun i hi=>Sp.code_good hp hi,fun i hi h2=>Sp.code_nw hp hi h2,(small_form hsm).2.2,by omega,fun x hx=>?_,(Sp.line_comb hp (by omega) (by omega)).2,(Sp.line_comb hp (by omega) (by omega)).2⟩,fun x hx=>?_⟩
 ·rw[e2] at hx
  obtain⟨h1,h2,l,hl,h3⟩:=Sp.es_mem _ hx
  have:=f3 l hl
  refine⟨by omega,by omega,?_⟩
  unfold Sp.i64;omega
 ·rw[e1] at hx
  obtain⟨l,hl,rfl⟩:=List.mem_map.1 hx
  have:=f3 l (Sp.vs_mem _ hl)
  unfold Sp.i64;omega
def askE (g p:ByteArray) (limit:Int):Int:=if eno g≠0 then eno g else if (Sp.comp p).1≠0 then (Sp.comp p).1 else if limit < 0∨200 < limit then 8 else 0
theorem askE_zero {g p:ByteArray} {limit:Int} (h:askE g p limit=0):eno g=0∧(Sp.comp p).1=0∧0≤limit∧limit≤200:=by
 unfold askE at h
 by_cases c1:eno g≠0
 ·rw[if_pos c1] at h;exact absurd h c1
 ·rw[if_neg c1] at h
  by_cases c2:(Sp.comp p).1≠0
  ·rw[if_pos c2] at h;exact absurd h c2
  ·rw[if_neg c2] at h
   by_cases c3:limit < 0∨200 < limit
   ·rw[if_pos c3] at h;exact absurd h (by decide)
   ·exact⟨by simpa using c1,by simpa using c2,by omega,by omega⟩
structure CompEnv (w:World):Prop where
 shapes:ShapesAt w
 split:SplitOk w
 err:∃ u p,w.cell? ⟨5,0,none⟩=some (.iface u p)
theorem CompEnv.below {w w':World} (h:CompEnv w) (hb:Below w.heap.size w w'):CompEnv w':=by
 obtain⟨u,p,he⟩:=h.err
 exact⟨h.shapes.below hb h.shapes.lt,csplit_ok_below h.split hb h.split.lt,u,p,(hb.cell (p:=⟨5,0,none⟩) (World.block_lt_of_cell? w _ he)).trans he⟩
theorem pcomp_any (s:ByteArray) (w:World) (h:CompEnv w):Calls Tryz.prog 36 #[.string s] w (CPost s w):=by
 by_cases hs:2000 < s.size
 ·exact pcomp_long s w hs
 ·obtain⟨u,p,he⟩:=h.err
  exact pcomp_short s w (by omega) h.shapes h.split u p he
theorem pisfrom (a b c:Int) (w:World):Calls Tryz.prog 22 #[.int .i64 a,.int .i64 b,.int .i64 c] w fun e w'=>e = .returned (.bool (decide (b≤a) && decide (a≤c)))∧w'=w:=by
 by_cases h1:b≤a
 ·by_cases h2:a≤c
  ·have d1:=decide_eq_true h1
   have d2:=decide_eq_true h2
   go_enter Tryz.func22,Tryz.ntmps22
   go_wp2
   go_ret
   first | exact⟨rfl,rfl⟩ | exact⟨by rw[d1,d2];rfl,rfl⟩
  ·have d1:=decide_eq_true h1
   have d2:=decide_eq_false h2
   go_enter Tryz.func22,Tryz.ntmps22
   go_wp2
   go_ret
   first | exact⟨rfl,rfl⟩ | exact⟨by rw[d1,d2];rfl,rfl⟩
 ·have d1:=decide_eq_false h1
  go_enter Tryz.func22,Tryz.ntmps22
  go_wp2
  go_ret
  first | exact⟨rfl,rfl⟩ | exact⟨by rw[d1];rfl,rfl⟩
theorem cells_allocB {W:World} {R:Nat} {C:Array Value} {t:TypeId} (h:W.heap[R]? = some (.cells C t (0,0))) (o:Obj) (i:Nat):(W.alloc o).cell? ⟨R,i,none⟩=C[i]?:=by
 rw[World.cell?_alloc_lt W o ⟨R,i,none⟩ (Array.getElem?_eq_some_iff.1 h).1]
 exact cell_of_row W R i C t (0,0) h
theorem CodeAt.far {w w':World} {R g:Nat} {L:List (List UInt8)} {a b c:Value} {t:TypeId} (h:CodeAt w g L) (hne:g≠R) (hR:w.heap[R]? = some (.cells #[a,b,c] t (0,0))) (hblk:∀ k,k≠R→w'.heap[k]? = w.heap[k]?) (hsz:w.heap.size≤w'.heap.size):CodeAt w' g L:=by
 have hcell:∀ i,w'.cell? ⟨g,i,none⟩=w.cell? ⟨g,i,none⟩:=fun i=>by unfold World.cell?;rw[hblk g hne]
 obtain⟨ms,m1,m2⟩:=h.mate
 refine⟨Nat.lt_of_lt_of_le h.lt hsz,fun i hi=>?_,ms,m1,fun i hi=>(hcell _).trans (m2 i hi)⟩
 obtain⟨fv,f1,f2⟩:=h.fn i hi
 refine⟨fv,(hcell _).trans f1,?_⟩
 rcases f2 with ⟨B,n,q1,q2,q3,q4⟩ | q
 ·refine Or.inl ⟨B,n,by omega,q2,?_,q4⟩
  have hB:B≠R:=by
   rintro rfl
   unfold NumAt at q3
   rw[hR] at q3
   injection q3 with q3
   injection q3 with q3 _ _
   have:=congrArg Array.size q3
   simp at this
  unfold NumAt at q3 ⊢
  rw[hblk B hB];exact q3
 ·exact Or.inr q
theorem LnsIn.far {X:List ByteArray} {w w':World} {P i R:Nat} {C:Array Value} {a b c:Value} {t:TypeId} (h:LnsIn X w P C i) (hP:R < P) (hR:w.heap[R]? = some (.cells #[a,b,c] t (0,0))) (hblk:∀ k,k≠R→w'.heap[k]? = w.heap[k]?) (hsz:w.heap.size≤w'.heap.size):LnsIn X w' P C i :=
 ⟨h.size,h.shape,fun j hj h5=>by obtain⟨g,cap,q1,q2,q3⟩:=h.code j hj h5;exact⟨g,cap,q1,q2,q3.far (by omega) hR hblk hsz⟩,h.comb⟩
def readE (g p:ByteArray):Int:=if eno g≠0 then eno g else (Sp.comp p).1
def RdPost (g p:ByteArray) (w:World) (e:Ending) (w':World):Prop :=
 Below w.heap.size w w'∧Small g∧∃ p0 n0 k0 p1 n1 k1 p2 n2 k2 pv,e = .returned (.tuple #[.agg #[.slice p0 n0 k0,.slice p1 n1 k1,.slice p2 n2 k2],.pointer pv,.int .i64 (readE g p)]) ∧
  (readE g p=0→n0=(vls g).length∧n1=(vls g).length∧n2=(els g).length∧IntsAt w' .i64 p1 (vls g)∧EdgesAt w' p2 (els g)∧∃ B,pv=some ⟨B,0,none⟩∧PrgAt w' B (Sp.pgOf p))
theorem pread (g p:ByteArray) (w:World) (hT:Lib.Utf8Tabs 3 4 w) (hC:CompEnv w):Calls Tryz.prog 21 #[.string g,.string p] w (RdPost g p w):=by
 generalize hO:RdPost g p w=O
 replace hO:=hde hO
 have hb0:Below w.heap.size w (w.alloc (.cells #[.slice none 0 0,.slice none 0 0,.slice none 0 0] 79)):=(Below.refl _ _).alloc nlr _
 have hR0:=heap_alloc_new w (.cells #[.slice none 0 0,.slice none 0 0,.slice none 0 0] 79)
 have hz0:=World.size_alloc w (.cells #[.slice none 0 0,.slice none 0 0,.slice none 0 0] 79)
 have HP:=hde (fun W (hb:Below w.heap.size w W)=>gparse_any g W (tabs_below hT hb) (split_ok_below hC.split hb))
 have HC:=hde (fun W (hb:Below w.heap.size w W)=>pcomp_any p W (hC.below hb))
 clear hT hC
 go_enter Tryz.func21,Tryz.ntmps21
 go_wp2_with fail
 generalize hW:World.alloc _ _=W0 at *
 refine(uh HP W0 hb0).mono ?_
 rintro e w1 ⟨hp1,hsm⟩
 have HSM:=hde hsm
 obtain⟨hb1,v,u,x,rfl,o0,o1,o2⟩:=parse_form hp1
 obtain⟨p0,k0,rfl,i0⟩:=ints_of_own o0
 obtain⟨p1,k1,rfl,i1⟩:=ints_of_own o1
 obtain⟨p2,k2,rfl,i2⟩:=edges_of_own o2
 rw[nls_len]
 have HO1:=hde o1
 have HO2:=hde o2
 obtain⟨ea,HEA⟩:∃ ea,Hid (eno g=ea):=⟨_,rfl⟩
 obtain⟨eb,HEB⟩:∃ eb,Hid (eat g=eb):=⟨_,rfl⟩
 obtain⟨n,HNV⟩:∃ n,Hid ((vls g).length=n):=⟨_,rfl⟩
 obtain⟨ne,HNE⟩:∃ ne,Hid ((els g).length=ne):=⟨_,rfl⟩
 rw[uh HEA,uh HEB,uh HNV,uh HNE]
 have hbw1:Below w.heap.size w w1:=hb0.trans (hb1.mono hb0.size)
 have hR1:=(hb1.block w.heap.size (by omega)).trans hR0
 have hz1:=hb1.size
 clear hp1 o0 o1 o2 i0 i1 i2 hW hR0 hb1 hsm
 unfold graphVal
 by_cases c1:ea=0
 ·subst c1
  go_wp2_with fail
  generalize hW1:World.alloc _ _=W1
  have hbA:Below w1.heap.size w1 W1:=by rw[← hW1];exact(Below.refl _ _).alloc nlr _
  have hG1:W1.heap[w1.heap.size]? = some (.cells #[.slice p0 n k0,.slice p1 n k1,.slice p2 ne k2] 79 (0,0)):=by rw[← hW1];exact heap_alloc_new w1 _
  clear hW1
  refine(uh HC W1 (hbw1.trans (hbA.mono hbw1.size))).mono ?_
  rintro e w2 ⟨hb2,pv,rfl,hpv⟩
  have HPV:=hde hpv
  have HG0:=hde hbA.size
  obtain⟨ca,HCA⟩:∃ ca,Hid ((Sp.comp p).1=ca):=⟨_,rfl⟩
  obtain⟨cb,HCB⟩:∃ cb,Hid ((Sp.comp p).2=cb):=⟨_,rfl⟩
  rw[uh HCA,uh HCB]
  have hb12:Below w1.heap.size w1 w2:=hbA.trans (hb2.mono hbA.size)
  have hbw2:Below w.heap.size w w2:=hbw1.trans (hb12.mono hbw1.size)
  have hG2:=(hb2.block w1.heap.size (Array.getElem?_eq_some_iff.1 hG1).1).trans hG1
  have hR2:=(hb12.block w.heap.size (by omega)).trans hR1
  have hz2:=hb12.size
  have hGl:=(Array.getElem?_eq_some_iff.1 hG1).1
  have r0:w2.cell? ⟨w.heap.size,0,none⟩=some (.slice none 0 0):=by simp[World.cell?,hR2]
  have r1:w2.cell? ⟨w.heap.size,1,none⟩=some (.slice none 0 0):=by simp[World.cell?,hR2]
  have r2:w2.cell? ⟨w.heap.size,2,none⟩=some (.slice none 0 0):=by simp[World.cell?,hR2]
  have rf0:w2.frozen? ⟨w.heap.size,0,none⟩=false:=by simp[World.frozen?,hR2]
  have rf1:w2.frozen? ⟨w.heap.size,1,none⟩=false:=by simp[World.frozen?,hR2]
  have rf2:w2.frozen? ⟨w.heap.size,2,none⟩=false:=by simp[World.frozen?,hR2]
  have g0:w2.cell? ⟨w1.heap.size,0,none⟩=some (.slice p0 n k0):=by simp[World.cell?,hG2]
  have g1:w2.cell? ⟨w1.heap.size,1,none⟩=some (.slice p1 n k1):=by simp[World.cell?,hG2]
  have g2:w2.cell? ⟨w1.heap.size,2,none⟩=some (.slice p2 ne k2):=by simp[World.cell?,hG2]
  have HFN:Hid (O (.returned (.tuple #[.agg #[.slice p0 n k0,.slice p1 n k1,.slice p2 ne k2],.pointer pv,.int .i64 ca])) (((w2.setCell ⟨w.heap.size,0,none⟩ (.slice p0 n k0)).setCell ⟨w.heap.size,1,none⟩ (.slice p1 n k1)).setCell ⟨w.heap.size,2,none⟩ (.slice p2 ne k2))):=by
   show O _ _
   rw[← uh hO]
   have hre:readE g p=ca:=by unfold readE;rw[if_neg (by rw[uh HEA];simp),uh HCA]
   refine⟨((hbw2.setCell (p:=⟨w.heap.size,0,none⟩) nlr _).setCell (p:=⟨w.heap.size,1,none⟩) nlr _).setCell (p:=⟨w.heap.size,2,none⟩) nlr _,uh HSM,p0,n,k0,p1,n,k1,p2,ne,k2,pv,by rw[hre],fun h0=>⟨(uh HNV).symm,(uh HNV).symm,(uh HNE).symm,?_,?_,?_⟩⟩
   ·have o:=obl (uh HO1) hb12
    have o':=ownsRow_setCell_below (ownsRow_setCell_below (ownsRow_setCell_below o (a:=⟨w.heap.size,0,none⟩) (by show w.heap.size < _;omega) (.slice p0 n k0)) (a:=⟨w.heap.size,1,none⟩) (by show w.heap.size < _;omega) (.slice p1 n k1)) (a:=⟨w.heap.size,2,none⟩) (by show w.heap.size < _;omega) (.slice p2 ne k2)
    obtain⟨pp,kk,ee,ii⟩:=ints_of_own o'
    injection ee with ee _ _
    rw[← ee] at ii;exact ii
   ·have o:=obl (uh HO2) hb12
    have o':=ownsRow_setCell_below (ownsRow_setCell_below (ownsRow_setCell_below o (a:=⟨w.heap.size,0,none⟩) (by show w.heap.size < _;omega) (.slice p0 n k0)) (a:=⟨w.heap.size,1,none⟩) (by show w.heap.size < _;omega) (.slice p1 n k1)) (a:=⟨w.heap.size,2,none⟩) (by show w.heap.size < _;omega) (.slice p2 ne k2)
    obtain⟨pp,kk,ee,ii⟩:=edges_of_own o'
    injection ee with ee _ _
    rw[← ee] at ii;exact ii
   ·obtain⟨P,C,e1,e2,e3,e4,e5⟩:=uh HPV (by rw[uh HCA,← hre];exact h0)
    refine⟨P,e1,?_⟩
    have hPR:w.heap.size < P:=by have:=hbA.size;omega
    have hblk:∀ k,k≠w.heap.size→(((w2.setCell ⟨w.heap.size,0,none⟩ (.slice p0 n k0)).setCell ⟨w.heap.size,1,none⟩ (.slice p1 n k1)).setCell ⟨w.heap.size,2,none⟩ (.slice p2 ne k2)).heap[k]? = w2.heap[k]?:=fun k hk=>(Below.heap_setCell _ _ _ k hk).trans ((Below.heap_setCell _ _ _ k hk).trans (Below.heap_setCell _ _ _ k hk))
    exact prg_of (by rw[uh HCA,← hre];exact h0) ((hblk P (by omega)).trans e3) (e4.far hPR hR2 hblk (by simp[World.setCell]))
  clear hb2 hb12 hbA hG1 hG2 hR1 hR2 HO1 HO2
  go_wp2
  exact bodyPost_ret (v := .tuple #[.agg #[.slice p0 n k0,.slice p1 n k1,.slice p2 ne k2],.pointer pv,.int .i64 ca]) (by simp[results,Tryz.results21,go_sem,r0,r1,r2]) rfl (uh HFN)
 ·have c1b:(ea != 0)=true:=by rw[bne_iff_ne];exact c1
  have hre:readE g p=ea:=by unfold readE;rw[if_pos (by rw[uh HEA];exact c1),uh HEA]
  have r0:w1.cell? ⟨w.heap.size,0,none⟩=some (.slice none 0 0):=by simp[World.cell?,hR1]
  have r1:w1.cell? ⟨w.heap.size,1,none⟩=some (.slice none 0 0):=by simp[World.cell?,hR1]
  have r2:w1.cell? ⟨w.heap.size,2,none⟩=some (.slice none 0 0):=by simp[World.cell?,hR1]
  have rf0:w1.frozen? ⟨w.heap.size,0,none⟩=false:=by simp[World.frozen?,hR1]
  have rf1:w1.frozen? ⟨w.heap.size,1,none⟩=false:=by simp[World.frozen?,hR1]
  have rf2:w1.frozen? ⟨w.heap.size,2,none⟩=false:=by simp[World.frozen?,hR1]
  have hHl:w.heap.size < w1.heap.size:=by omega
  have hblk:=blk_set (i:=2) (blk_set (i:=1) (blk_set (i:=0) hR1 (.slice none 0 0)) (.slice none 0 0)) (.slice none 0 0)
  have HXC:=hde (fun o i'=>cells_allocB hblk o i')
  have HFN:Hid (∀ o,O (.returned (.tuple #[.agg #[.slice none 0 0,.slice none 0 0,.slice none 0 0],.pointer none,.int .i64 ea])) ((((w1.setCell ⟨w.heap.size,0,none⟩ (.slice none 0 0)).setCell ⟨w.heap.size,1,none⟩ (.slice none 0 0)).setCell ⟨w.heap.size,2,none⟩ (.slice none 0 0)).alloc o)):=by
   show ∀ o,_
   intro o
   rw[← uh hO]
   have h5:=((hbw1.setCell (p:=⟨w.heap.size,0,none⟩) nlr (.slice none 0 0)).setCell (p:=⟨w.heap.size,1,none⟩) nlr (.slice none 0 0)).setCell (p:=⟨w.heap.size,2,none⟩) nlr (.slice none 0 0)
   exact⟨h5.alloc h5.size o,uh HSM,none,0,0,none,0,0,none,0,0,none,by rw[hre],fun h0=>absurd (hre.symm.trans h0) c1⟩
  have HRE:=hde hre
  have HC1:=hde c1
  clear hblk hre c1 hR1
  go_wp2
  have hXC:=uh HXC
  exact bodyPost_ret (v := .tuple #[.agg #[.slice none 0 0,.slice none 0 0,.slice none 0 0],.pointer none,.int .i64 ea]) (by simp[results,Tryz.results21,go_sem,hXC]) rfl (uh HFN _)
theorem below_rset4 {B:Nat} {w W:World} {R:Nat} (h:Below B w W) (hR:B≤R) (a b c d:Value):Below B w (rset4 W R a b c d):=
 (((h.setCell (p:=⟨R,0,none⟩) hR _).setCell (p:=⟨R,1,none⟩) hR _).setCell (p:=⟨R,2,none⟩) hR _).setCell (p:=⟨R,3,none⟩) hR _
def resOf (g p:ByteArray) (limit:Int):Sp.Res:=if askE g p limit=0 then Sp.runR (Sp.pgOf p) (vls g) (els g) limit.toNat else ⟨0,0,0,[]⟩
theorem pshow (a:Int) (q:Option Addr) (m k:Nat) (b:Int) (w:World):Calls Tryz.prog 26 #[.agg #[.int .i64 a,.slice q m k,.int .i64 b]] w fun e w'=>e = .returned (.tuple #[])∧Below w.heap.size w w':=by
 have hb:Below w.heap.size w (w.alloc (.cells #[.int .i64 a,.slice q m k,.int .i64 b] 91)):=(Below.refl _ _).alloc nlr _
 generalize hO:(fun (e:Ending) (w':World)=>e=Ending.returned (Value.tuple #[])∧Below w.heap.size w w')=O
 have HFN:Hid (O (.returned (.tuple #[])) (w.alloc (.cells #[.int .i64 a,.slice q m k,.int .i64 b] 91))):=by
  show O _ _
  rw[← hO]
  exact⟨rfl,hb⟩
 clear hO hb
 go_enter Tryz.func26,Tryz.ntmps26
 go_wp2
 first | exact uh HFN | exact bodyPost_ret (v := .tuple #[]) (by simp[results,Tryz.results26,go_sem]) rfl (uh HFN)
def SRPost (g p:ByteArray) (limit:Int) (w:World) (e:Ending) (w':World):Prop :=
 Below w.heap.size w w'∧Small g∧∃ v,e = .returned (.tuple #[.agg #[.int .u8 (resOf g p limit).outcome,.int .i64 (resOf g p limit).step,.int .i64 (resOf g p limit).vertex,v],.int .i64 (askE g p limit)])∧w'.ownsRow w.heap.size 2 1 v (resOf g p limit).vals.length ((resOf g p limit).vals.map (Value.int .i64))
theorem sr_err {g p:ByteArray} {limit:Int} {w w':World} {a:Int} (h:askE g p limit=a) (ha:a≠0) (hb:Below w.heap.size w w') (hs:Small g):SRPost g p limit w (.returned (.tuple #[.agg #[.int .u8 0,.int .i64 0,.int .i64 0,.slice none 0 0],.int .i64 a])) w':=by
 have hr:resOf g p limit=⟨0,0,0,[]⟩:=by unfold resOf;rw[if_neg (by rw[h];exact ha)]
 exact⟨hb,hs,.slice none 0 0,by rw[hr,h];rfl,by rw[hr];exact World.ownsRow_nil _ _ _ _⟩
theorem begin_vx {w:World} {B n:Nat} {sl:Value} {P:Sp.Pg} {vs:List Int} (hl:vs.length=n) (h:w.ownsRow B 131 4 sl n (vxC vs [] [] (List.replicate n (Sp.noneK P.by')) n)):∃ p cap,sl = .slice p n cap∧VxAt w p (Sp.first' P vs) n:=by
 obtain⟨p,cap,hv,hx⟩:=vx_of_own (all:=Sp.noneK P.al) h
 refine⟨p,cap,hv,hx.congr (fun k _=>rfl) (fun k hk=>?_) (fun k hk=>?_) (fun k hk=>?_)⟩
 ·show (List.replicate vs.length false).getD k false=_
  rw[List.getD_eq_getElem?_getD,List.getElem?_replicate,if_pos (by omega)];rfl
 ·show (List.replicate vs.length (0:Int)).getD k 0=_
  rw[List.getD_eq_getElem?_getD,List.getElem?_replicate,if_pos (by omega)];rfl
 ·show (List.replicate vs.length (Sp.noneK P.by')).getD k 0=_
  rw[hl]
theorem srun_any (g p:ByteArray) (limit:Int) (z f:Addr) (w:World) (hT:Lib.Utf8Tabs 3 4 w) (hC:CompEnv w) (her:Errs w z f):Calls Tryz.prog 12 #[.string g,.string p,.int .i64 limit] w (SRPost g p limit w):=by
 generalize hO:SRPost g p limit w=O
 replace hO:=hde hO
 have hb0:Below w.heap.size w (w.alloc (.cells #[.int .u8 0,.int .i64 0,.int .i64 0,.slice none 0 0] 44)):=(Below.refl _ _).alloc nlr _
 have hR0:=heap_alloc_new w (.cells #[.int .u8 0,.int .i64 0,.int .i64 0,.slice none 0 0] 44)
 have hz0:=World.size_alloc w (.cells #[.int .u8 0,.int .i64 0,.int .i64 0,.slice none 0 0] 44)
 have HRD:=hde (fun W (hb:Below w.heap.size w W)=>pread g p W (tabs_below hT hb) (hC.below hb))
 have HER:=hde her
 clear hT hC her
 go_enter Tryz.func12,Tryz.ntmps12
 go_wp2_with fail
 generalize hW:World.alloc _ _=W0 at *
 refine(uh HRD W0 hb0).mono ?_
 rintro e w1 ⟨hb1,hsm,p0,n0,k0,p1,n1,k1,p2,n2,k2,pv,rfl,hok⟩
 have HSM:=hde hsm
 have HOK:=hde hok
 obtain⟨ra,HRA⟩:∃ ra,Hid (readE g p=ra):=⟨_,rfl⟩
 rw[uh HRA]
 have hbw1:Below w.heap.size w w1:=hb0.trans (hb1.mono hb0.size)
 have hR1:=(hb1.block w.heap.size (by omega)).trans hR0
 have hz1:=hb1.size
 have hHl:w.heap.size < w1.heap.size:=by omega
 have r0:w1.cell? ⟨w.heap.size,0,none⟩=some (.int .u8 0):=(by simp[World.cell?,hR1])
 have rf0:w1.frozen? ⟨w.heap.size,0,none⟩=false:=(by simp[World.frozen?,hR1])
 have r1:w1.cell? ⟨w.heap.size,1,none⟩=some (.int .i64 0):=(by simp[World.cell?,hR1])
 have rf1:w1.frozen? ⟨w.heap.size,1,none⟩=false:=(by simp[World.frozen?,hR1])
 have r2:w1.cell? ⟨w.heap.size,2,none⟩=some (.int .i64 0):=(by simp[World.cell?,hR1])
 have rf2:w1.frozen? ⟨w.heap.size,2,none⟩=false:=(by simp[World.frozen?,hR1])
 have r3:w1.cell? ⟨w.heap.size,3,none⟩=some (.slice none 0 0):=(by simp[World.cell?,hR1])
 have rf3:w1.frozen? ⟨w.heap.size,3,none⟩=false:=(by simp[World.frozen?,hR1])
 have HXC:=hde (fun o i'=>cells_alloc (rset4_blk hR1 (.int .u8 0) (.int .i64 0) (.int .i64 0) (.slice none 0 0)) o i')
 unfold rset4 at HXC
 have HBX:Hid (∀ o,Below w.heap.size w ((rset4 w1 w.heap.size (.int .u8 0) (.int .i64 0) (.int .i64 0) (.slice none 0 0)).alloc o)):=fun o=>by have h:=below_rset4 hbw1 (Nat.le_refl w.heap.size) (.int .u8 0) (.int .i64 0) (.int .i64 0) (.slice none 0 0);exact h.alloc h.size o
 clear hW hR0 hb1 hsm hok
 by_cases c1:ra=0
 ·subst c1
  by_cases c2:0≤limit∧limit≤200
  ·obtain⟨m1,m2,m3,hiv,hie,B,rfl,hprg⟩:=uh HOK (uh HRA)
   subst m1 m2 m3
   have hE0:eno g=0∧(Sp.comp p).1=0:=by
    have h:=uh HRA
    unfold readE at h
    by_cases c:eno g≠0
    ·rw[if_pos c] at h;exact absurd h c
    ·rw[if_neg c] at h;exact⟨by simpa using c,h⟩
   obtain⟨cap,rfl⟩:∃ cap:Nat,limit=(cap:Int):=⟨limit.toNat,by omega⟩
   have hcap:cap≤200:=by omega
   have HASK:Hid (askE g p (cap:Int)=0):=by
    show _=_
    unfold askE
    rw[if_neg (by rw[hE0.1];simp),if_neg (by rw[hE0.2];simp),if_neg (by omega)]
   obtain⟨hjo,hvo⟩:=job_ok hE0.1 hE0.2 (uh HSM)
   have HJO:=hde hjo
   have HPRG:=hde hprg
   have HIV:=hde hiv
   obtain⟨n,HN⟩:∃ n,Hid ((vls g).length=n):=⟨_,rfl⟩
   have HRES:Hid (Sp.rgo (Sp.pgOf p) (els g) cap (cap+1) 0 (Sp.first' (Sp.pgOf p) (vls g))=resOf g p (cap:Int)):=by
    show _=_
    unfold resOf
    rw[if_pos (uh HASK)]
    rfl
   have HCF:Hid (Sp.CfgOk n (Sp.first' (Sp.pgOf p) (vls g))):=by have h:=Sp.first_ok (Sp.pgOf p) (vls g) hvo;rw[uh HN] at h;exact h
   have HNJ:=hde (fun W (hb:Below w1.heap.size w1 W)=>pnewjob p0 (vls g).length k0 p1 k1 p2 k2 B cap (els g) W (hie.below hb) hjo.n64 hjo.es (fun x hx=>(hjo.ed x hx).1))
   rw[uh HN] at HNJ HJO ⊢
   have hn64:n≤64:=(uh HJO).n64
   obtain⟨ne,HNE⟩:∃ ne,Hid ((els g).length=ne):=⟨_,rfl⟩
   rw[uh HNE] at HNJ ⊢
   have l1:(0:Int)≤(cap:Int):=Int.natCast_nonneg _
   have l2:(cap:Int)≤200:=by omega
   have HIF:Hid (∀ W,Calls Tryz.prog 22 #[.int .i64 (cap:Int),.int .i64 0,.int .i64 200] W fun e w'=>e = .returned (.bool true)∧w'=W):=by
    show ∀ W,_
    intro W
    have h:=pisfrom (cap:Int) 0 200 W
    rw[decide_eq_true l1,decide_eq_true l2] at h
    exact h
   clear hjo hvo hE0 hprg hiv hie c2 l1 l2
   have HRB1:=hde hR1
   clear r0 r1 r2 r3 rf0 rf1 rf2 rf3 HXC HBX hR1
   go_wp2_with (go_at_call 22;go_must (refine(uh HIF _).mono ?_);rintro e wq ⟨rfl,hwq⟩;obtain rfl:=hwq.symm)
   generalize hW1:World.alloc _ _=W1
   have hbA:Below w1.heap.size w1 W1:=by rw[← hW1];exact(Below.refl _ _).alloc nlr _
   clear hW1
   refine(uh HNJ W1 hbA).mono ?_
   rintro e w2 ⟨hb2,pe,ke,rfl,heb⟩
   have hb12:Below w1.heap.size w1 w2:=hbA.trans (hb2.mono hbA.size)
   have hz2:=hb12.size
   have HEB:=hde heb
   unfold pjobA
   clear HNJ heb hb2 hbA
   go_upto_region 7 with fail
   generalize hW3:World.alloc _ _=W3
   have hb23:Below w2.heap.size w2 W3:=by rw[← hW3];exact(Below.refl _ _).alloc nlr _
   have hJb:W3.heap[w2.heap.size]? = some (.cells (pjobA B p1 n k1 pe ke cap) 86 (0,0)):=by rw[← hW3];exact heap_alloc_new w2 _
   have hJl:=(Array.getElem?_eq_some_iff.1 hJb).1
   obtain⟨j0,j1,j2,j3⟩:=job4_cells hJb
   have hb13:Below w1.heap.size w1 W3:=hb12.trans (hb23.mono hb12.size)
   have hbw3:Below w.heap.size w W3:=hbw1.trans (hb13.mono hbw1.size)
   have HR3:=hde ((hb13.block w.heap.size hHl).trans (uh HRB1))
   have hRl:w.heap.size < W3.heap.size:=by have:=hb13.size;omega
   have HBG:Hid (∀ W,Below W3.heap.size W3 W→Calls Tryz.prog 25 #[.agg #[.pointer (some ⟨B,0,none⟩),.slice p1 n k1,.slice pe n ke,.int .i64 cap]] W (BPost (Sp.pgOf p) (vls g) n W)):=fun W hW=>by
    have h1:=hb13.trans (hW.mono hb13.size)
    exact pbegin B p1 n k1 pe ke cap (Sp.pgOf p) (vls g) W ((uh HPRG).below h1) ((uh HIV).below h1) (uh HN) hn64
   have HRU:Hid (∀ (W:World) (pp:Option Addr) (kk:Nat),Below W3.heap.size W3 W→VxAt W pp (Sp.first' (Sp.pgOf p) (vls g)) n→Calls Tryz.prog 24 #[.agg #[.pointer (some ⟨B,0,none⟩),.slice p1 n k1,.slice pe n ke,.int .i64 cap],.agg #[.int .i64 0,.slice pp n kk,.int .i64 (Sp.noneK (Sp.pgOf p).al)],.func (.func 26) #[] #[]] W (PRPost (resOf g p (cap:Int)) W)):=fun W pp kk hW hvx=>by
    have h1:=hb13.trans (hW.mono hb13.size)
    exact prun B p1 n k1 pe ke cap (Sp.pgOf p) (els g) pp kk (Sp.first' (Sp.pgOf p) (vls g)) z f 26 (resOf g p (cap:Int)) W ((uh HPRG).below h1) ((uh HER).below (hbw1.trans (h1.mono hbw1.size))) ((uh HEB).below (hb23.trans (hW.mono hb23.size))) hvx (uh HCF) (uh HJO) hcap (uh HRES) (cfe Tryz.func26 (by kernel_rfl) (by kernel_rfl)) (fun a q m k b W=>pshow a q m k b W)
   have HENB:Hid (∀ (args:Array Value) (w:World),(callFunc 25 args).run Tryz.prog w = .ok (.enter 25 args) w):=cfe Tryz.func25 (by kernel_rfl) (by kernel_rfl)
   have HENR:Hid (∀ (args:Array Value) (w:World),(callFunc 24 args).run Tryz.prog w = .ok (.enter 24 args) w):=cfe Tryz.func24 (by kernel_rfl) (by kernel_rfl)
   have HSR:Hid (∀ (wq:World) (v:Value) (Bq:Nat),Below W3.heap.size W3 wq→wq.ownsRow Bq 2 1 v (resOf g p (cap:Int)).vals.length ((resOf g p (cap:Int)).vals.map (Value.int .i64))→W3.heap.size≤Bq→SRPost g p (cap:Int) w (.returned (.tuple #[.agg #[.int .u8 (resOf g p (cap:Int)).outcome,.int .i64 (resOf g p (cap:Int)).step,.int .i64 (resOf g p (cap:Int)).vertex,v],.int .i64 0])) (rset4 wq w.heap.size (.int .u8 (resOf g p (cap:Int)).outcome) (.int .i64 (resOf g p (cap:Int)).step) (.int .i64 (resOf g p (cap:Int)).vertex) v)):=fun wq v Bq hbq hov hBq=>by
    have h1:=hbw3.trans (hbq.mono hbw3.size)
    refine⟨below_rset4 h1 nlr _ _ _ _,uh HSM,v,by rw[uh HASK],?_⟩
    have o':∀ {W:World} (j:Nat) (u:Value),W.ownsRow Bq 2 1 v (resOf g p (cap:Int)).vals.length ((resOf g p (cap:Int)).vals.map (Value.int .i64))→(W.setCell ⟨w.heap.size,j,none⟩ u).ownsRow Bq 2 1 v (resOf g p (cap:Int)).vals.length ((resOf g p (cap:Int)).vals.map (Value.int .i64)):=fun j u h=>ownsRow_setCell_below h (a:=⟨w.heap.size,j,none⟩) (by show w.heap.size < Bq;omega) u
    exact own_low (o' 3 _ (o' 2 _ (o' 1 _ (o' 0 _ hov)))) (by omega)
   obtain⟨na,HNA⟩:∃ na,Hid (Sp.noneK (Sp.pgOf p).al=na):=⟨_,rfl⟩
   unfold BPost at HBG
   unfold PRPost at HRU
   rw[uh HNA] at HBG HRU
   generalize resOf g p (cap:Int)=res at *
   obtain⟨oc,st,vt,V⟩:=res
   simp only at HRU HSR
   clear hW3 hb12 hb23 hJb HPRG HIV HRES HCF HRB1
   go_region_law (first
    | (refine step_call (by rfl) _ _ _ (by rfl) 25 (by rfl) _ (by rfl) (uh HENB) (uh HBG _ (by first | exact Below.refl _ _ | exact(Below.refl _ _).drew)) ?_;rintro e wq ⟨hbq0,sl,rfl,hos⟩;obtain⟨pp,kk,hpk,hvx⟩:=begin_vx (uh HN) hos;subst hpk;dsimp only;have hbq:Below W3.heap.size W3 wq:=(by first | exact hbq0 | exact(Below.refl _ _).drew.trans (hbq0.mono nlr));have HBQ:=hde hbq;have HVX:=hde hvx;have i0:=(hbq.cell (p:=⟨w2.heap.size,0,none⟩) hJl).trans j0;have i1:=(hbq.cell (p:=⟨w2.heap.size,1,none⟩) hJl).trans j1;have i2:=(hbq.cell (p:=⟨w2.heap.size,2,none⟩) hJl).trans j2;have i3:=(hbq.cell (p:=⟨w2.heap.size,3,none⟩) hJl).trans j3;clear hbq hbq0 hos hvx)
    | (refine step_call (by rfl) _ _ _ (by rfl) 24 (by rfl) _ (by rfl) (uh HENR) (uh HRU wq pp kk (uh HBQ) (uh HVX)) ?_;rintro e wr ⟨hbr0,v,rfl,hov⟩;obtain⟨pv2,kv2,hpk2,_⟩:=osl hov;subst hpk2;dsimp only;have hbr:Below W3.heap.size W3 wr:=(uh HBQ).trans (hbr0.mono (uh HBQ).size);have hRr:=(hbr.block w.heap.size hRl).trans (uh HR3);have r0:wr.cell? ⟨w.heap.size,0,none⟩=some (.int .u8 0):=(by simp[World.cell?,hRr]);have rf0:wr.frozen? ⟨w.heap.size,0,none⟩=false:=(by simp[World.frozen?,hRr]);have r1:wr.cell? ⟨w.heap.size,1,none⟩=some (.int .i64 0):=(by simp[World.cell?,hRr]);have rf1:wr.frozen? ⟨w.heap.size,1,none⟩=false:=(by simp[World.frozen?,hRr]);have r2:wr.cell? ⟨w.heap.size,2,none⟩=some (.int .i64 0):=(by simp[World.cell?,hRr]);have rf2:wr.frozen? ⟨w.heap.size,2,none⟩=false:=(by simp[World.frozen?,hRr]);have r3:wr.cell? ⟨w.heap.size,3,none⟩=some (.slice none 0 0):=(by simp[World.cell?,hRr]);have rf3:wr.frozen? ⟨w.heap.size,3,none⟩=false:=(by simp[World.frozen?,hRr]);have HBR:=hde hbr;have HOV:=hde hov;clear hbr hbr0 hov hRr))
   all_goals
    have HFN:Hid (O (.returned (.tuple #[.agg #[.int .u8 oc,.int .i64 st,.int .i64 vt,.slice pv2 V.length kv2],.int .i64 0])) (rset4 wr w.heap.size (.int .u8 oc) (.int .i64 st) (.int .i64 vt) (.slice pv2 V.length kv2))):=by
     show O _ _
     rw[← uh hO]
     exact uh HSR wr _ _ (uh HBR) (uh HOV) (uh HBQ).size
    first
     | (go_wp2;exact bodyPost_ret (v := .tuple #[.agg #[.int .u8 oc,.int .i64 st,.int .i64 vt,.slice pv2 V.length kv2],.int .i64 0]) (by simp[results,Tryz.results12,go_sem,r0,r1,r2,r3]) rfl (uh HFN))
     | trace_state
  ·have HE:Hid (askE g p limit=8):=by
    show _=_
    have h:=uh HRA
    unfold readE at h
    unfold askE
    by_cases c:eno g≠0
    ·rw[if_pos c] at h;exact absurd h c
    ·rw[if_neg c] at h ⊢;rw[if_neg (by rw[h];simp),if_pos (by omega)]
   have HIF:Hid (∀ W,Calls Tryz.prog 22 #[.int .i64 limit,.int .i64 0,.int .i64 200] W fun e w'=>e = .returned (.bool false)∧w'=W):=by
    show ∀ W,_
    intro W
    have h:=pisfrom limit 0 200 W
    have hf:(decide (0≤limit) && decide (limit≤200))=false:=by
     by_cases l1:0≤limit
     ·rw[decide_eq_true l1,decide_eq_false (fun l2=>c2 ⟨l1,l2⟩)];rfl
     ·rw[decide_eq_false l1];rfl
    rw[hf] at h
    exact h
   have HFN:Hid (∀ o,O (.returned (.tuple #[.agg #[.int .u8 0,.int .i64 0,.int .i64 0,.slice none 0 0],.int .i64 8])) ((rset4 w1 w.heap.size (.int .u8 0) (.int .i64 0) (.int .i64 0) (.slice none 0 0)).alloc o)):=by
    show ∀ o,_
    intro o
    rw[← uh hO]
    exact sr_err (uh HE) (by decide) (uh HBX o) (uh HSM)
   clear c2 hR1
   go_wp2_with (go_at_call 22;go_must (refine(uh HIF _).mono ?_);rintro e wq ⟨rfl,hwq⟩;obtain rfl:=hwq.symm)
   have hXC:=uh HXC
   exact bodyPost_ret (v := .tuple #[.agg #[.int .u8 0,.int .i64 0,.int .i64 0,.slice none 0 0],.int .i64 8]) (by simp[results,Tryz.results12,go_sem,hXC]) rfl (uh HFN _)
 ·have c1b:(ra != 0)=true:=by rw[bne_iff_ne];exact c1
  have HE:Hid (askE g p limit=ra):=by
   show _=_
   have h:=uh HRA
   unfold readE at h
   unfold askE
   by_cases c:eno g≠0
   ·rw[if_pos c] at h ⊢;exact h
   ·rw[if_neg c] at h ⊢;rw[if_pos (by rw[h];exact c1)];exact h
  have HC1:=hde c1
  have HFN:Hid (∀ o,O (.returned (.tuple #[.agg #[.int .u8 0,.int .i64 0,.int .i64 0,.slice none 0 0],.int .i64 ra])) ((rset4 w1 w.heap.size (.int .u8 0) (.int .i64 0) (.int .i64 0) (.slice none 0 0)).alloc o)):=by
   show ∀ o,_
   intro o
   rw[← uh hO]
   exact sr_err (uh HE) (uh HC1) (uh HBX o) (uh HSM)
  clear c1 hR1
  go_wp2
  have hXC:=uh HXC
  exact bodyPost_ret (v := .tuple #[.agg #[.int .u8 0,.int .i64 0,.int .i64 0,.slice none 0 0],.int .i64 ra]) (by simp[results,Tryz.results12,go_sem,hXC]) rfl (uh HFN _)
end Go.Proofs.YteflnddphpjahaaGreatDoor
