import Derived.Test.YteflnddphpjahaaDoorClHeldAtoHeldB
import Derived.Test.YteflnddphpjahaaDoorClRefI
import Derived.Outline
import Derived.Deep.DeepMust
/-
  The lists that are held: the walk of values.
-/
set_option linter.unusedVariables false
set_option linter.unusedSimpArgs false
set_option maxRecDepth 100000
namespace Go.Proofs.YteflnddphpjahaaDoor
open Go.RowKit

theorem rep_len (mk : List Value) (n : Nat) : (rep mk n).length = n * mk.length := by
  induction n with
  | zero => simp [rep]
  | succ n ih => simp only [rep, List.length_append, ih, Nat.succ_mul]
theorem set_rep (m : Value) (xs : List Value) (k : Nat) (hk : k < xs.length) : (rep [m] k ++ xs.drop k).set k m = rep [m] (k + 1) ++ xs.drop (k + 1) := by
  have h1 : (rep [m] k).length = k := by rw [rep_len]; simp
  rw [List.set_append_right _ _ (by omega), h1, Nat.sub_self, List.drop_eq_getElem_cons hk]
  simp only [rep, List.set_cons_zero, List.append_assoc, List.cons_append, List.nil_append]
/-- All held lists of one kind lie below B. -/
def Lie (B : Nat) (l : List (Value × Int)) : Prop := ∀ p ∈ l, ∀ g, p.1.ownBlock = some g → g < B
/-- Every held list of a kind is marked, and those in the row of v are not longer than it. -/
def Lists (w : World) (e size : Nat) (mk : Int → List Value) (v : Value) (n : Nat) (l : List (Value × Int)) : Prop :=
  ∀ p ∈ l, ∃ n', n' ≤ 100000 ∧ w.ownsRow 0 e size p.1 n' (rep (mk p.2) n') ∧ (p.1.ownBlock = v.ownBlock → n' ≤ n)
theorem Lists.marked {w : World} {e size n : Nat} {mk : Int → List Value} {v : Value} {l : List (Value × Int)} (h : Lists w e size mk v n l) : ∀ p ∈ l, Marked w e size mk p := fun p hp => by
  obtain ⟨n', h1, h2, _⟩ := h p hp
  exact ⟨n', h1, h2⟩
theorem own_nil {w : World} {B e size n : Nat} {v : Value} {xs : List Value} (h : w.ownsRow B e size v n xs) (hv : v.ownBlock = none) : n = 0 := by
  rcases h.2 with ⟨_, h0⟩ | ⟨g, cap, cur, rfl, _⟩
  · exact h0
  · cases hv
theorem Lists.start {w : World} {e size B n : Nat} {mk : Int → List Value} {v : Value} {xs : List Value} {l : List (Value × Int)} (h : ∀ p ∈ l, Marked w e size mk p) (hl : Lie B l) (ho : w.ownsRow B e size v n xs) : Lists w e size mk v n l := fun p hp => by
  obtain ⟨n', h1, h2⟩ := h p hp
  refine ⟨n', h1, h2, fun e1 => ?_⟩
  cases hb : v.ownBlock with
  | none => rw [hb] at e1; have := own_nil h2 e1; omega
  | some g =>
    rw [hb] at e1
    have a1 := hl p hp g e1
    have a2 := (ho.lt g hb).1
    omega
/-- Behind an append onto v. -/
theorem Lists.next {w w' : World} {e size n : Nat} {mk : Int → List Value} {v v' : Value} {l : List (Value × Int)} (h : Lists w e size mk v n l) (hg : w.grownBy w' v.ownBlock) (hat : v'.ownBlock = v.ownBlock ∨ v'.ownBlock = some w.heap.size)
    (hk : ∀ (B' : Nat) (u : Value) (n' : Nat) (ys : List Value), n' ≤ n → u.ownBlock = v.ownBlock → w.ownsRow B' e size u n' ys → w'.ownsRow B' e size u n' ys) : Lists w' e size mk v' (n + 1) l := fun p hp => by
  obtain ⟨n', h1, h2, h3⟩ := h p hp
  by_cases hb : p.1.ownBlock = v.ownBlock
  · exact ⟨n', h1, hk _ _ _ _ (h3 hb) hb h2, fun _ => by have := h3 hb; omega⟩
  · refine ⟨n', h1, h2.kept hg (.inr hb), fun e1 => ?_⟩
    rcases hat with hat | hat
    · rw [hat] at e1; exact absurd e1 hb
    · rw [hat] at e1
      have := (h2.lt _ e1).2
      omega
theorem Lists.other {w w' : World} {e size n B e' s m : Nat} {mk : Int → List Value} {v u : Value} {xs : List Value} {l : List (Value × Int)} (h : Lists w e size mk v n l) (hu : w.ownsRow B e' s u m xs) (hg : w.grownBy w' u.ownBlock) (he : e ≠ e') : Lists w' e size mk v n l := fun p hp => by
  obtain ⟨n', h1, h2, h3⟩ := h p hp
  exact ⟨n', h1, h2.kept hg (own_ne h2 hu he), h3⟩
theorem Lists.setH {w : World} {e size n H : Nat} {mk : Int → List Value} {v : Value} {l : List (Value × Int)} (h : Lists w e size mk v n l) (ho : Off H l) (j : Nat) (u : Value) : Lists (w.setCell ⟨H, j, none⟩ u) e size mk v n l := fun p hp => by
  obtain ⟨n', h1, h2, h3⟩ := h p hp
  exact ⟨n', h1, own_setH h2 (ho p hp) _ _, h3⟩
theorem Lists.snoc {w : World} {e size n : Nat} {mk : Int → List Value} {v : Value} {m : Int} {l : List (Value × Int)} (h : Lists w e size mk v n l) (hn : n ≤ 100000) (ho : w.ownsRow 0 e size v n (rep (mk m) n)) : Lists w e size mk v n (l ++ [(v, m)]) := fun p hp => by
  rcases List.mem_append.1 hp with hp | hp
  · exact h p hp
  · rw [List.mem_singleton.1 hp]; exact ⟨n, hn, ho, fun _ => Nat.le_refl _⟩
theorem own_zero {w : World} {B e size n : Nat} {v : Value} {xs : List Value} (h : w.ownsRow B e size v n xs) : w.ownsRow 0 e size v n xs := by
  obtain ⟨h1, h2⟩ := h
  refine ⟨h1, ?_⟩
  rcases h2 with h2 | ⟨g, cap, cur, hv, hB, r⟩
  · exact .inl h2
  · exact .inr ⟨g, cap, cur, hv, Nat.zero_le _, r⟩
theorem Off.of_lie {H B : Nat} {l : List (Value × Int)} (h : ∀ p ∈ l, ∀ g, p.1.ownBlock = some g → H < g) : Off H l := fun p hp e => by have := h p hp H e; omega
/-- No held list lies at or below the struct's block; and the marks are within their bounds. -/
def High (H : Nat) (l : List (Value × Int)) : Prop := ∀ p ∈ l, (∀ g, p.1.ownBlock = some g → H < g) ∧ (0 ≤ p.2 ∧ p.2 ≤ 1099511628783)
theorem High.off {H : Nat} {l : List (Value × Int)} (h : High H l) : Off H l := fun p hp e => by have := (h p hp).1 H e; omega
theorem High.snoc {H B e size n : Nat} {w : World} {l : List (Value × Int)} {v : Value} {xs : List Value} (h : High H l) (ho : w.ownsRow B e size v n xs) (hB : H < B) (m : Int) (hm : 0 ≤ m ∧ m ≤ 1099511628783) : High H (l ++ [(v, m)]) := fun p hp => by
  rcases List.mem_append.1 hp with hp | hp
  · exact h p hp
  · have e := List.mem_singleton.1 hp
    refine ⟨fun g hg => ?_, by rw [e]; exact hm⟩
    rw [e] at hg; have := (ho.lt g hg).1; omega

theorem new_cell (w : World) (cs : Array Value) (t n j : Nat) (x : Value) (hn : n = w.heap.size) (h : cs[j]? = some x) : (w.alloc (.cells cs t)).cell? ⟨n, j, none⟩ = some x := by
  subst hn; simp [h]
/-- What a call that holds lists leaves. -/
def ValuesPost (w : World) (H N B : Nat) (v2 v3 : Value) (hv hn he : List (Value × Int)) (e : Ending) (w' : World) : Prop :=
  e = .returned (.tuple #[]) ∧ ∃ v1' hv', HeldSt w' H (N + 1) v1' v2 v3 hv' hn he ∧ High H hv' ∧ hv'.length = hv.length + 4 ∧ Turns H [2, 51] w w'

set_option maxHeartbeats 4000000 in
theorem values_any (H N B n : Nat) (l v1 v2 v3 : Value) (hv hn he : List (Value × Int)) (xs : List Value) (w : World) (h : HeldSt w H N v1 v2 v3 hv hn he) (hN : N + 1 ≤ 1000) (hvl : hv.length + 4 ≤ 1000)
    (a1 : High H hv) (a2 : High H hn) (a3 : High H he) (hB : H < B) (hBs : B ≤ w.heap.size) (hlie : Lie B hv) (hl : w.ownsRow B 2 1 l n xs) (hn9 : n ≤ 90000) :
    Calls Tryd.prog 28 #[.pointer (some ⟨H, 0, none⟩), l] w (ValuesPost w H N B v2 v3 hv hn he) := by
  obtain ⟨t1, ht1, hua, hub, huc⟩ := info_parts Tryd.info_i64
  obtain ⟨t2, ht2, hva, hvb, hvc⟩ := info_parts Tryd.info_hv
  have c0 := h.c0
  have f0 := h.fz 0
  obtain ⟨p, cap, rfl, _⟩ := own_slice hl
  go_enter Tryd.func28, Tryd.ntmps28
  go_wp2_with fail
  refine (mark_any H N _ (by omega) c0 f0).mono ?_
  rintro e w1 ⟨rfl, hw1⟩
  have h1 := h.setN a1.off a2.off a3.off hN
  have t01 := Turns.setH H [2, 51] w 0 (.int .i64 ((N + 1 : Nat) : Int))
  have hl1 := own_setH hl (H := H) (fun e => by have := (hl.lt H e).1; omega) 0 (.int .i64 ((N + 1 : Nat) : Int))
  rw [← hw1] at h1 t01 hl1
  generalize hm : (1099511627783 + ((N + 1 : Nat) : Int)) = m
  have hm0 : 0 ≤ m := by omega
  have hm1 : m ≤ 1099511628783 := by omega
  clear hm hw1 c0 f0 h hl
  go_wp2_with fail
  go_loopw [5] (fun i wr => ∃ k : Nat, k ≤ n ∧ i = .int .i64 k ∧ HeldSt wr H (N + 1) v1 v2 v3 hv hn he ∧ wr.ownsRow B 2 1 (.slice p n cap) n (rep [.int .i64 m] k ++ xs.drop k) ∧ Turns H [2, 51] w wr) (fun i _ => n - (intOf i).toNat)
  case atStart => exact ⟨0, Nat.zero_le _, rfl, h1, by simpa [rep] using hl1, t01⟩
  case round =>
    clear h1 t01 hl1
    obtain ⟨k, hk, rfl, h1, hl1, t01⟩ := hrel
    by_cases hlt : k < n
    · obtain ⟨g, cap', hp⟩ := own_form hl1 (by omega)
      injection hp with hp1 hp2 hp3
      subst hp1 hp3
      have hxl : xs.length = n := by
        have := hl1.1
        rw [List.length_append, rep_len, List.length_drop] at this
        simp at this; omega
      have hc0 : wr.cell? ⟨g, k, none⟩ = some xs[k] := by
        rw [hl1.cellAt k (by omega), List.getElem?_append_right (by rw [rep_len]; simp), rep_len]
        simp [hxl, hlt]
      have hf := hl1.frozenAt k
      have hst := hl1.stored k (.int .i64 m)
      rw [set_rep _ _ _ (by omega)] at hst
      have hgB : B ≤ g := (hl1.lt g rfl).1
      have h2 := h1.grown hst.2 (by simp; omega) (own_ne h1.r1 hl1 (by decide)) (own_ne h1.r2 hl1 (by decide)) (own_ne h1.r3 hl1 (by decide))
        (fun q hq => (h1.m1 q hq).kept hst.2 (.inr (fun e => by have := hlie q hq g e; omega)))
        (fun q hq => (h1.m2 q hq).other hl1 hst.2 (by decide)) (fun q hq => (h1.m3 q hq).other hl1 hst.2 (by decide))
      have t12 := t01.trans (Turns.setRow hl1 rfl hB (by simp) k (.int .i64 m))
      have HR := hide (And.intro h2 (And.intro hst.1 t12))
      clear h2 hst t12 h1 t01
      go_wp2
      go_roundw
      case rel => exact ⟨k + 1, by omega, by go_num, (unhide HR).1, (unhide HR).2.1, (unhide HR).2.2⟩
      case measure => simp [intOf]; omega
    · obtain rfl : k = n := by omega
      have hl2 : wr.ownsRow B 2 1 (.slice p k cap) k (rep (mkV m) k) := by
        have hx : xs.drop k = [] := by
          apply List.drop_of_length_le
          have := hl1.1
          rw [List.length_append, rep_len, List.length_drop] at this
          simp at this; omega
        rw [hx, List.append_nil] at hl1; exact hl1
      have hbw := hBs
      have hBr : B ≤ wr.heap.size := Nat.le_trans hBs t01.size
      clear hl1
      go_wp2_with fail
      go_loopw [6, 7] (fun gv j wr => ∃ (r : Nat) (v1 : Value) (hv' : List (Value × Int)), r ≤ 3 ∧ j = .int .i64 r ∧ hv'.length = hv.length + r ∧ HeldSt wr H (N + 1) v1 v2 v3 hv' hn he ∧ High H hv' ∧ wr.ownsRow B 2 1 gv (k + r) (rep (mkV m) (k + r)) ∧ Lists wr 2 1 mkV gv (k + r) hv' ∧ B ≤ wr.heap.size ∧ Turns H [2, 51] w wr) (fun _ j _ => 3 - (intOf j).toNat)
      case atStart => exact ⟨0, v1, hv, by omega, rfl, rfl, h1, a1, hl2, Lists.start h1.m1 hlie hl2, hBr, t01⟩
      case round =>
        clear h1 t01 hl2 hBr
        obtain ⟨r, v1, hv', hr, rfl, hlen, h1, a1, hl2, hls, hBr, t01⟩ := hrel
        have hle : hv'.length ≤ 999 := by omega
        have HLE := hide hlen
        clear hlen
        have hc0 := h1.c1
        have hf0 := h1.fz 1
        have hsm := h1.small
        have hGl := h1.lt
        obtain ⟨p6, cap6, rfl, _⟩ := own_slice hl2
        have a1' := High.snoc a1 hl2 hB m ⟨hm0, hm1⟩
        by_cases hlt : r < 3
        · go_wp2_with (first
            | (at_builtin; go_must (refine wpList_append_lies _ rfl (.tmp 29) (.tmp 33) 23 rfl (H + 1) 51 t2 _ 2 32 Tryd.underlying23 ht2 hva hvb hvc rfl (by omega) v1 _ _ rfl (h1.r1.alloc _) ⟨wr.heap.size, 0, none⟩ 1 1 [.slice p6 (k + r) cap6, .int .i64 m] rfl rfl ?c1 ?c2 (by omega) ?c3 ?c4 ?c5 (wr.heap.size + 1) ?c6 ?_))
            | go_in)
          case c1 =>
            intro j u hj
            match j, hj with
            | 0, hj => simp at hj; subst hj; simp [Addr.add]
            | 1, hj => simp at hj; subst hj; simp [Addr.add]
          case c2 => intro u hu; simp at hu; rcases hu with rfl | rfl <;> rfl
          case c3 => unfold maxLen; omega
          case c4 => omega
          case c5 => simp; omega
          case c6 => simp
          intro gg cp w2 hown2 hgrow2 hat2 hlt2
          have hne0 : some H ≠ v1.ownBlock := fun e => by have := (h1.r1.lt H e.symm).1; omega
          have hq0 : w2.cell? ⟨H, 1, none⟩ = some v1 := (hgrow2.cell_far ⟨H, 1, none⟩ (by simp; omega) hne0).trans (h1.alloc _).c1
          have hq1 : w2.frozen? ⟨H, 1, none⟩ = false := (hgrow2.frozen_far ⟨H, 1, none⟩ (by simp; omega) hne0).trans ((h1.alloc _).fz 1)
          have hmk : Marked (wr.alloc (.cells #[.slice p6 (k + r) cap6, .int .i64 m] 51)) 2 1 mkV (.slice p6 (k + r) cap6, m) := ⟨k + r, by omega, own_zero (hl2.alloc _)⟩
          have h3 := (h1.alloc _).app1 a1'.off a2.off a3.off hown2 hgrow2 hmk (by omega)
          have hl3 := own_setH (own_app (h1.r1.alloc _) (hl2.alloc _) (by decide) hgrow2) (H := H) (fun e => by have := (hl2.lt H e).1; omega) 1 (.slice (some ⟨gg, 0, none⟩) (hv'.length + 1) cp)
          have hls3 : Lists (w2.setCell ⟨H, 1, none⟩ (.slice (some ⟨gg, 0, none⟩) (hv'.length + 1) cp)) 2 1 mkV (.slice p6 (k + r) cap6) (k + r) (hv' ++ [(.slice p6 (k + r) cap6, m)]) := by
            refine Lists.setH ?_ a1'.off _ _
            have hla : Lists (wr.alloc (.cells #[.slice p6 (k + r) cap6, .int .i64 m] 51)) 2 1 mkV (.slice p6 (k + r) cap6) (k + r) hv' := fun q hq => by
              obtain ⟨n', b1, b2, b3⟩ := hls q hq
              exact ⟨n', b1, b2.alloc _, b3⟩
            exact (hla.snoc (by omega) (own_zero (hl2.alloc _))).other (h1.r1.alloc _) hgrow2 (by decide)
          have t3 := ((t01.trans (Turns.alloc H _ wr (by omega) (.cells #[.slice p6 (k + r) cap6, .int .i64 m] 51))).trans (Turns.grown (h1.r1.alloc _) hgrow2 (by omega) (by simp; omega) (by simp))).trans (Turns.setH H _ w2 1 (.slice (some ⟨gg, 0, none⟩) (hv'.length + 1) cp))
          have hz2 := hgrow2.size
          simp at hz2
          clear hown2 hgrow2 hat2 hlt2 hne0 hmk h1 hl2 hls t01
          go_wp2_with (first
            | (at_builtin; go_must (refine wpList_append_keeps _ rfl (.tmp 37) (.tmp 39) 37 rfl B 2 t1 _ 1 8 Tryd.underlying37 ht1 hua hub huc rfl (by omega) _ _ _ rfl (hl3.alloc _) ⟨w2.heap.size, 0, none⟩ 1 1 (by omega) [.int .i64 m] rfl rfl ?d1 ?d2 ?d3 ?d4 ?d5 ?_))
            | go_in)
          case d1 =>
            intro j u hj
            match j, hj with
            | 0, hj => simp at hj; subst hj; simp only [Addr.add_lit, Nat.add_zero]; exact new_cell _ _ _ _ _ _ (by simp) rfl
          case d2 => intro u hu; simp at hu; subst hu; rfl
          case d3 => unfold maxLen; omega
          case d4 => omega
          case d5 => simp; omega
          intro v5 w5 hl5 hg5 hat5 hk5
          have hls5 := (show Lists ((w2.setCell ⟨H, 1, none⟩ (.slice (some ⟨gg, 0, none⟩) (hv'.length + 1) cp)).alloc (.cells #[.int .i64 m] 2)) 2 1 mkV (.slice p6 (k + r) cap6) (k + r) (hv' ++ [(.slice p6 (k + r) cap6, m)]) from fun q hq => by
            obtain ⟨n', b1, b2, b3⟩ := hls3 q hq
            exact ⟨n', b1, b2.alloc _, b3⟩).next hg5 (by simpa using hat5) hk5
          have hneH : some H ≠ (Value.slice p6 (k + r) cap6).ownBlock := fun e => by have := (hl3.lt H e.symm).1; omega
          have h5 := (h3.alloc _).grown hg5 hneH (own_ne h3.r1 hl3 (by decide)) (own_ne h3.r2 hl3 (by decide)) (own_ne h3.r3 hl3 (by decide)) hls5.marked
            (fun q hq => ((h3.alloc _).m2 q hq).other (hl3.alloc _) hg5 (by decide)) (fun q hq => ((h3.alloc _).m3 q hq).other (hl3.alloc _) hg5 (by decide))
          have t5 := (t3.trans (Turns.alloc H _ _ (by simp; omega) (.cells #[.int .i64 m] 2))).trans (Turns.grown (hl3.alloc _) hg5 hB (by simp; omega) (by simp))
          have hz5 := hg5.size
          simp at hz5
          have HR := hide (And.intro h5 (And.intro hls5 (And.intro t5 hl5)))
          clear hls5 h5 t5 hl5 h3 hl3 hls3 t3 hk5 hg5 hat5
          go_wp2
          go_roundw
          case rel => exact ⟨r + 1, _, _, by omega, by go_num, by rw [List.length_append, unhide HLE]; simp; omega, (unhide HR).1, a1', (unhide HR).2.2.2, (unhide HR).2.1, by omega, (unhide HR).2.2.1⟩
          case measure => simp [intOf]; omega
        · obtain rfl : r = 3 := by omega
          go_wp2_with (first
            | (at_builtin; go_must (refine wpList_append_lies _ rfl (.tmp 45) (.tmp 49) 23 rfl (H + 1) 51 t2 _ 2 32 Tryd.underlying23 ht2 hva hvb hvc rfl (by omega) v1 _ _ rfl (h1.r1.alloc _) ⟨wr.heap.size, 0, none⟩ 1 1 [.slice p6 (k + 3) cap6, .int .i64 m] rfl rfl ?e1 ?e2 (by omega) ?e3 ?e4 ?e5 (wr.heap.size + 1) ?e6 ?_))
            | go_in)
          case e1 =>
            intro j u hj
            match j, hj with
            | 0, hj => simp at hj; subst hj; simp [Addr.add]
            | 1, hj => simp at hj; subst hj; simp [Addr.add]
          case e2 => intro u hu; simp at hu; rcases hu with rfl | rfl <;> rfl
          case e3 => unfold maxLen; omega
          case e4 => omega
          case e5 => simp; omega
          case e6 => simp
          intro gg cp w2 hown2 hgrow2 hat2 hlt2
          have hne0 : some H ≠ v1.ownBlock := fun e => by have := (h1.r1.lt H e.symm).1; omega
          have hq0 : w2.cell? ⟨H, 1, none⟩ = some v1 := (hgrow2.cell_far ⟨H, 1, none⟩ (by simp; omega) hne0).trans (h1.alloc _).c1
          have hq1 : w2.frozen? ⟨H, 1, none⟩ = false := (hgrow2.frozen_far ⟨H, 1, none⟩ (by simp; omega) hne0).trans ((h1.alloc _).fz 1)
          have hmk : Marked (wr.alloc (.cells #[.slice p6 (k + 3) cap6, .int .i64 m] 51)) 2 1 mkV (.slice p6 (k + 3) cap6, m) := ⟨k + 3, by omega, own_zero (hl2.alloc _)⟩
          have h3 := (h1.alloc _).app1 a1'.off a2.off a3.off hown2 hgrow2 hmk (by omega)
          have hl3 := own_setH (own_app (h1.r1.alloc _) (hl2.alloc _) (by decide) hgrow2) (H := H) (fun e => by have := (hl2.lt H e).1; omega) 1 (.slice (some ⟨gg, 0, none⟩) (hv'.length + 1) cp)
          have hls3 : Lists (w2.setCell ⟨H, 1, none⟩ (.slice (some ⟨gg, 0, none⟩) (hv'.length + 1) cp)) 2 1 mkV (.slice p6 (k + 3) cap6) (k + 3) (hv' ++ [(.slice p6 (k + 3) cap6, m)]) := by
            refine Lists.setH ?_ a1'.off _ _
            have hla : Lists (wr.alloc (.cells #[.slice p6 (k + 3) cap6, .int .i64 m] 51)) 2 1 mkV (.slice p6 (k + 3) cap6) (k + 3) hv' := fun q hq => by
              obtain ⟨n', b1, b2, b3⟩ := hls q hq
              exact ⟨n', b1, b2.alloc _, b3⟩
            exact (hla.snoc (by omega) (own_zero (hl2.alloc _))).other (h1.r1.alloc _) hgrow2 (by decide)
          have t3 := ((t01.trans (Turns.alloc H _ wr (by omega) (.cells #[.slice p6 (k + 3) cap6, .int .i64 m] 51))).trans (Turns.grown (h1.r1.alloc _) hgrow2 (by omega) (by simp; omega) (by simp))).trans (Turns.setH H _ w2 1 (.slice (some ⟨gg, 0, none⟩) (hv'.length + 1) cp))
          have hz2 := hgrow2.size
          simp at hz2
          clear hown2 hgrow2 hat2 hlt2 hne0 hmk h1 hl2 hls t01 hl3 hls3
          have HF := hide (And.intro h3 t3)
          clear h3 t3
          go_wp2
          go_end0
          exact ⟨rfl, _, _, (unhide HF).1, a1', by rw [List.length_append, unhide HLE]; simp, (unhide HF).2⟩
end Go.Proofs.YteflnddphpjahaaDoor
