import Derived.Test.YteflnddphpjahaaDoorClPrB
import Derived.Test.YteflnddphpjahaaDoorClHeldF
import Derived.Test.YteflnddphpjahaaDoorClSameA
/-
  stride.Parse: as the document says.
-/
set_option linter.unusedVariables false
set_option linter.unusedSimpArgs false
set_option maxRecDepth 100000
namespace Go.Proofs.YteflnddphpjahaaDoor
open Go.RowKit

set_option maxHeartbeats 2000000 in
theorem sparse_any (s : ByteArray) (w : World) (hT : Lib.Utf8Tabs 2 3 w) (hS : SplitOk w) : Calls Tryd.prog 13 #[.string s] w (PPost s w) := by
  have R0 := Res.new w
  cases hp : Sp.parseSpec s with
  | error ab =>
    obtain ⟨a, b⟩ := ab
    have HP := hide hp
    clear hp
    go_enter Tryd.func13, Tryd.ntmps13
    go_wp2_with fail
    refine (gparse_any s _ (tabs_below hT R0.1) (split_ok_below hS R0.1)).mono ?_
    rintro e w1 ⟨⟨hb1, hm1⟩, hsm⟩
    rw [unhide HP] at hm1
    obtain rfl := hm1
    have RZ := R0.next hb1
    obtain ⟨n0, n1, n2, nf⟩ := blk3_cell RZ.2.2
    have nf0 := nf 0
    have nf1 := nf 1
    have nf2 := nf 2
    have hzs := RZ.2.1
    have hzb := RZ.1
    clear hb1
    unfold graphVal
    go_wp2
    refine bodyPost_ret (v := .tuple #[nilG, .int .i64 a, .int .i64 b]) (by simp [results, Tryd.results13, go_sem, graphVal, n0, n1, n2]) rfl ⟨parse_err (unhide HP) ?_, hsm⟩
    exact ((hzb.setCell (Nat.le_refl _) _).setCell (Nat.le_refl _) _).setCell (Nat.le_refl _) _
  | ok L =>
    have HP := hide hp
    clear hp
    go_enter Tryd.func13, Tryd.ntmps13
    go_wp2_with fail
    refine (gparse_any s _ (tabs_below hT R0.1) (split_ok_below hS R0.1)).mono ?_
    rintro e w1 ⟨⟨hb1, hm1⟩, hsm⟩
    rw [unhide HP] at hm1
    obtain ⟨v, u, x, rfl, r0, r1, r2⟩ := hm1
    have RZ := R0.next hb1
    obtain ⟨pv, kv, rfl, _⟩ := own_slice r0
    obtain ⟨pu, ku, rfl, _⟩ := own_slice r1
    obtain ⟨px, kx, rfl, _⟩ := own_slice r2
    obtain ⟨n0, n1, n2, nf⟩ := blk3_cell RZ.2.2
    have nf0 := nf 0
    have nf1 := nf 1
    have nf2 := nf 2
    have hzs := RZ.2.1
    have hzb := RZ.1
    clear hb1
    rw [World.size_alloc] at r0 r1 r2
    unfold graphVal
    go_wp2
    have hlt : w.heap.size < w.heap.size + 1 := Nat.lt_succ_self _
    refine bodyPost_ret (v := .tuple #[graphVal (.slice pv (Sp.vs L (Sp.nv L)).length kv) (.slice pu (Sp.vs L (Sp.nv L)).length ku) (.slice px (Sp.es L (Sp.nv L) (Sp.nv L)).length kx), .int .i64 0, .int .i64 0]) (by simp [results, Tryd.results13, go_sem, graphVal, n0, n1, n2]) rfl ?_
    refine ⟨?_, hsm⟩
    refine ⟨((hzb.setCell (Nat.le_refl _) _).setCell (Nat.le_refl _) _).setCell (Nat.le_refl _) _, ?_⟩
    rw [unhide HP]
    exact ⟨_, _, _, rfl, own_base (ownsRow_setCell_below (ownsRow_setCell_below (ownsRow_setCell_below r0 (a := ⟨w.heap.size, 0, none⟩) hlt _) (a := ⟨w.heap.size, 1, none⟩) hlt _) (a := ⟨w.heap.size, 2, none⟩) hlt _) (Nat.le_succ _),
      own_base (ownsRow_setCell_below (ownsRow_setCell_below (ownsRow_setCell_below r1 (a := ⟨w.heap.size, 0, none⟩) hlt _) (a := ⟨w.heap.size, 1, none⟩) hlt _) (a := ⟨w.heap.size, 2, none⟩) hlt _) (Nat.le_succ _),
      own_base (ownsRow_setCell_below (ownsRow_setCell_below (ownsRow_setCell_below r2 (a := ⟨w.heap.size, 0, none⟩) hlt _) (a := ⟨w.heap.size, 1, none⟩) hlt _) (a := ⟨w.heap.size, 2, none⟩) hlt _) (Nat.le_succ _)⟩
end Go.Proofs.YteflnddphpjahaaDoor
/-
  The law's own: Held.parse.
-/
set_option linter.unusedVariables false
set_option linter.unusedSimpArgs false
set_option maxRecDepth 100000
namespace Go.Proofs.YteflnddphpjahaaDoor
open Go.RowKit

def nls (s : ByteArray) : List Int := match Sp.parseSpec s with | .error _ => [] | .ok L => (Sp.vs L (Sp.nv L)).map (·.frm)
def vls (s : ByteArray) : List Int := match Sp.parseSpec s with | .error _ => [] | .ok L => (Sp.vs L (Sp.nv L)).map (·.n)
def els (s : ByteArray) : List Sp.Ed := match Sp.parseSpec s with | .error _ => [] | .ok L => Sp.es L (Sp.nv L) (Sp.nv L)
def eno (s : ByteArray) : Int := match Sp.parseSpec s with | .error (a, _) => a | .ok _ => 0
def eat (s : ByteArray) : Int := match Sp.parseSpec s with | .error (_, b) => b | .ok _ => 0
theorem parse_form {s : ByteArray} {w w' : World} {e : Ending} (h : ParsePost s w e w') : Below w.heap.size w w' ∧ ∃ v u x, e = .returned (.tuple #[graphVal v u x, .int .i64 (eno s), .int .i64 (eat s)]) ∧
    w'.ownsRow w.heap.size 21 1 v (nls s).length ((nls s).map (Value.int .i32)) ∧ w'.ownsRow w.heap.size 2 1 u (vls s).length ((vls s).map (Value.int .i64)) ∧ w'.ownsRow w.heap.size 58 3 x (els s).length (edCells (els s)) := by
  obtain ⟨hb, hm⟩ := h
  refine ⟨hb, ?_⟩
  unfold nls vls els eno eat
  cases hp : Sp.parseSpec s with
  | error ab =>
    obtain ⟨a, b⟩ := ab
    rw [hp] at hm
    exact ⟨_, _, _, hm, World.ownsRow_nil _ _ _ _, World.ownsRow_nil _ _ _ _, World.ownsRow_nil _ _ _ _⟩
  | ok L =>
    rw [hp] at hm
    obtain ⟨v, u, x, he, r0, r1, r2⟩ := hm
    exact ⟨v, u, x, he, by simpa using r0, by simpa using r1, r2⟩
theorem small_form {s : ByteArray} (h : Small s) : (nls s).length ≤ 64 ∧ (vls s).length ≤ 64 ∧ (els s).length ≤ 256 := by
  unfold nls vls els
  cases hp : Sp.parseSpec s with
  | error ab => simp
  | ok L =>
    have := h L hp
    simp
    omega
theorem num_any (a : Int) (w : World) : Calls Tryd.prog 17 #[.int .i64 a] w fun e w' => e = .returned (.int .i64 a) ∧ w' = w := by
  go_enter Tryd.func17, Tryd.ntmps17
  go_wp2
  go_ret
  exact ⟨rfl, rfl⟩
theorem lie_of_marked {w : World} {e size : Nat} {mk : Int → List Value} {l : List (Value × Int)} (h : ∀ p ∈ l, Marked w e size mk p) : Lie w.heap.size l := fun p hp g hg => by
  obtain ⟨n, _, ho⟩ := h p hp
  exact (ho.lt g hg).2

/-- What parse leaves. -/
def HPost (w : World) (H N : Nat) (hv hn he : List (Value × Int)) (e : Ending) (w' : World) : Prop :=
  e = .returned (.bool true) ∧ ∃ v1 v2 v3 hv' hn' he', HeldSt w' H (N + 3) v1 v2 v3 hv' hn' he' ∧ High H hv' ∧ High H hn' ∧ High H he' ∧ hv'.length = hv.length + 4 ∧ hn'.length = hn.length + 4 ∧ he'.length = he.length + 4 ∧ Below H w w'

set_option maxHeartbeats 2000000 in
theorem hparse_any (H N : Nat) (v1 v2 v3 : Value) (hv hn he : List (Value × Int)) (s : ByteArray) (w : World) (h : HeldSt w H N v1 v2 v3 hv hn he) (hN : N + 3 ≤ 1000) (hvl : hv.length + 4 ≤ 1000) (hnl : hn.length + 4 ≤ 1000) (hel : he.length + 4 ≤ 1000)
    (a1 : High H hv) (a2 : High H hn) (a3 : High H he) (hT : Lib.Utf8Tabs 2 3 w) (hS : SplitOk w) (hs : s.size ≤ maxLen) :
    Calls Tryd.prog 6 #[.pointer (some ⟨H, 0, none⟩), .string s] w (HPost w H N hv hn he) := by
  have HHS := hide h
  have hHl := h.lt
  have l1 := lie_of_marked h.m1
  have l2 := lie_of_marked h.m2
  have l3 := lie_of_marked h.m3
  have HA := hide (And.intro a1 (And.intro a2 a3))
  have HL := hide (And.intro l1 (And.intro l2 l3))
  clear h a1 a2 a3 l1 l2 l3
  go_enter Tryd.func6, Tryd.ntmps6
  go_wp2_with fail
  refine (sparse_any s _ hT hS).mono ?_
  rintro e w1 ⟨hp1, hsm⟩
  have HSM := hide (small_form hsm)
  obtain ⟨hb1, v, u, x, rfl, o0, o1, o2⟩ := parse_form hp1
  obtain ⟨p0, k0, rfl, i0⟩ := ints_of_own o0
  obtain ⟨p1, k1, rfl, i1⟩ := ints_of_own o1
  obtain ⟨p2, k2, rfl, i2⟩ := edges_of_own o2
  have HO := hide (And.intro o0 (And.intro o1 o2))
  clear hp1 hsm o0 o1 o2
  obtain ⟨ea, hea⟩ : ∃ ea, eno s = ea := ⟨_, rfl⟩
  obtain ⟨eb, heb⟩ : ∃ eb, eat s = eb := ⟨_, rfl⟩
  have HEA := hide (And.intro hea heb)
  rw [hea, heb]
  clear hea heb
  unfold graphVal
  go_wp2_with fail
  refine (refParse_any s _ hs).mono ?_
  rintro e w2 hp2
  obtain ⟨hb2, v', u', x', rfl, o0', o1', o2'⟩ := parse_form hp2
  rw [(unhide HEA).1, (unhide HEA).2]
  obtain ⟨q0, j0, rfl, i0'⟩ := ints_of_own o0'
  obtain ⟨q1, j1, rfl, i1'⟩ := ints_of_own o1'
  obtain ⟨q2, j2, rfl, i2'⟩ := edges_of_own o2'
  clear hp2 o0' o1' o2'
  have hbG : w2.heap[w1.heap.size]? = some (.cells #[.slice p0 (nls s).length k0, .slice p1 (vls s).length k1, .slice p2 (els s).length k2] 40 (0, 0)) := (hb2.block _ (by simp)).trans (World.alloc_heap_new w1 _)
  have hb12 : Below w1.heap.size w1 w2 := ((Below.refl _ w1).alloc (Nat.le_refl _) _).trans (hb2.mono (by simp))
  have hlt2 : w1.heap.size < w2.heap.size := (Array.getElem?_eq_some_iff.1 hbG).1
  obtain ⟨c0, c1, c2, _⟩ := blk3_cell hbG
  clear hb2
  unfold graphVal
  go_wp2_with fail
  have hA : Below w2.heap.size w2 (w2.alloc (.cells #[.slice q0 (nls s).length j0, .slice q1 (vls s).length j1, .slice q2 (els s).length j2] 40)) := (Below.refl _ _).alloc (Nat.le_refl _) _
  refine (sameGraph_any p0 q0 p1 q1 p2 q2 k0 j0 k1 j1 k2 j2 (nls s) (vls s) (els s) _ ((i0.below hb12).below hA) (i0'.below hA) ((i1.below hb12).below hA) (i1'.below hA) ((i2.below hb12).below hA) (i2'.below hA) (by have := unhide HSM; omega) (by have := unhide HSM; omega) (by have := unhide HSM; omega)).mono ?_
  rintro e w3 ⟨rfl, hb3⟩
  have hb23 : Below w2.heap.size w2 w3 := hA.trans (hb3.mono (by simp))
  have hb13 : Below w1.heap.size w1 w3 := hb12.trans (hb23.mono (by omega))
  have hb03 : Below w.heap.size w w3 := hb1.trans (hb13.mono hb1.size)
  have hbG3 := (hb23.block _ hlt2).trans hbG
  obtain ⟨d0, d1, d2, _⟩ := blk3_cell hbG3
  clear i0 i1 i2 i0' i1' i2' c0 c1 c2 hbG hA hb3 hb12
  go_wp2_with fail
  refine (graph_any H N w.heap.size (nls s).length (vls s).length (els s).length _ _ _ v1 v2 v3 hv hn he _ _ _ _ ((unhide HHS).below hb03) hN hvl hnl hel (unhide HA).1 (unhide HA).2.1 (unhide HA).2.2 hHl hb03.size (unhide HL).1 (unhide HL).2.1 (unhide HL).2.2 (own_below (unhide HO).1 hb13) (own_below (unhide HO).2.1 hb13) (own_below (unhide HO).2.2 hb13) (by have := unhide HSM; omega) (by have := unhide HSM; omega) (by have := unhide HSM; omega)).mono ?_
  rintro e w4 ⟨rfl, v1', v2', v3', hv', hn', he', h4, b1, b2, b3, e1, e2, e3, tu⟩
  have HR : Hid (HPost w H N hv hn he (.returned (.bool true)) w4) := ⟨rfl, v1', v2', v3', hv', hn', he', h4, b1, b2, b3, e1, e2, e3, (hb03.mono (by omega)).trans tu.below⟩
  clear h4 b1 b2 b3 e1 e2 e3 tu
  go_wp2_with (go_at_call 17; refine (num_any _ _).mono ?_; rintro e w5 ⟨rfl, hw⟩; obtain rfl := hw.symm)
  go_ret
  exact unhide HR

theorem HeldSt.new (w : World) : HeldSt (w.alloc (.cells #[.int .i64 0, .slice none 0 0, .slice none 0 0, .slice none 0 0, .slice none 0 0, .slice none 0 0] 29)) w.heap.size 0 (.slice none 0 0) (.slice none 0 0) (.slice none 0 0) [] [] [] := by
  have h := World.alloc_heap_new w (.cells #[.int .i64 0, .slice none 0 0, .slice none 0 0, .slice none 0 0, .slice none 0 0, .slice none 0 0] 29)
  have hc : ∀ j v, (#[.int .i64 0, .slice none 0 0, .slice none 0 0, .slice none 0 0, .slice none 0 0, .slice none 0 0] : Array Value)[j]? = some v → (w.alloc (.cells #[.int .i64 0, .slice none 0 0, .slice none 0 0, .slice none 0 0, .slice none 0 0, .slice none 0 0] 29)).cell? ⟨w.heap.size, j, none⟩ = some v := fun j v hv => cell_of h hv
  exact ⟨by simp, ⟨by omega, by simp, by simp, by simp⟩, hc 0 _ rfl, hc 1 _ rfl, hc 2 _ rfl, hc 3 _ rfl, hc 4 _ rfl, hc 5 _ rfl, fun j => by simp, World.ownsRow_nil _ _ _ _, World.ownsRow_nil _ _ _ _, World.ownsRow_nil _ _ _ _, fun p hp => by simp at hp, fun p hp => by simp at hp, fun p hp => by simp at hp⟩

set_option maxHeartbeats 2000000 in
/-- The whole law. -/
theorem parsed_any (s : ByteArray) (w : World) (hT : Lib.Utf8Tabs 2 3 w) (hS : SplitOk w) (hs : s.size ≤ maxLen) :
    Calls Tryd.prog 3 #[.string s] w fun e w' => e = .returned (.bool true) ∧ Below w.heap.size w w' := by
  go_enter Tryd.func3, Tryd.ntmps3
  go_wp2_with fail
  have hb0 : Below w.heap.size w (w.alloc (.cells #[.int .i64 0, .slice none 0 0, .slice none 0 0, .slice none 0 0, .slice none 0 0, .slice none 0 0] 29)) := (Below.refl _ _).alloc (Nat.le_refl _) _
  refine (hparse_any w.heap.size 0 _ _ _ [] [] [] s _ (HeldSt.new w) (by omega) (by simp) (by simp) (by simp) (fun p hp => by simp at hp) (fun p hp => by simp at hp) (fun p hp => by simp at hp) (tabs_below hT hb0) (split_ok_below hS hb0) hs).mono ?_
  rintro e w1 ⟨rfl, v1, v2, v3, hv, hn, he, h1, a1, a2, a3, e1, e2, e3, hb1⟩
  have hB1 : Below w.heap.size w w1 := hb0.trans hb1
  simp at e1 e2 e3
  have HE := hide (And.intro e1 (And.intro e2 e3))
  clear hb0 hb1 e1 e2 e3
  go_wp2_with fail
  refine (hparse_any w.heap.size 3 _ _ _ hv hn he s _ h1 (by omega) (by have := unhide HE; omega) (by have := unhide HE; omega) (by have := unhide HE; omega) a1 a2 a3 (tabs_below hT hB1) (split_ok_below hS hB1) hs).mono ?_
  rintro e w2 ⟨rfl, u1, u2, u3, gv, gn, ge, h2, c1, c2, c3, f1, f2, f3, hb2⟩
  have hB2 : Below w.heap.size w w2 := hB1.trans hb2
  clear h1 a1 a2 a3 f1 f2 f3 hb2 hB1
  go_wp2_with fail
  refine (dry_any w.heap.size 6 _ _ _ gv gn ge _ h2 (fun p hp => (c1 p hp).2) (fun p hp => (c2 p hp).2) (fun p hp => (c3 p hp).2)).mono ?_
  rintro e w3 ⟨rfl, hb3⟩
  have HB3 := hide (hB2.trans (hb3.mono hB2.size))
  clear h2 c1 c2 c3 hb3 hB2
  go_wp2
  go_ret
  exact ⟨rfl, unhide HB3⟩
end Go.Proofs.YteflnddphpjahaaDoor
