import Derived.Test.YteflnddphpjahaaDoorClHeldC
import Derived.Outline
import Derived.Deep.DeepMust
import Derived.Deep.RegionHeld3
/-
  The lists that are held: marks as runes and edges.
-/
set_option linter.unusedVariables false
set_option linter.unusedSimpArgs false
set_option maxRecDepth 100000
namespace Go.Proofs.YteflnddphpjahaaDoor
open Go.RowKit

theorem wrap32_mod {m : Int} (h0 : 0 ≤ m) : IntKind.i32.wrap (m % 1000000007) = m % 1000000007 := by
  have a := Int.emod_nonneg m (show (1000000007 : Int) ≠ 0 by decide)
  have b := Int.emod_lt_of_pos m (show (0 : Int) < 1000000007 by decide)
  have hm : (m % 1000000007) % 4294967296 = m % 1000000007 := by omega
  unfold IntKind.wrap
  simp [IntKind.bits, IntKind.signed, hm]
  omega
set_option maxHeartbeats 400000 in
theorem markRune_any (m : Int) (w : World) (h0 : 0 ≤ m) (h1 : m ≤ 1099511628783) :
    Calls Tryd.prog 18 #[.int .i64 m] w fun e w' => e = .returned (.int .i32 (m % 1000000007)) ∧ w' = w := by
  have hw := wrap32_mod h0
  go_enter Tryd.func18, Tryd.ntmps18
  go_wp2
  go_ret
  exact ⟨rfl, rfl⟩
set_option maxHeartbeats 400000 in
theorem markEdge_any (m : Int) (w : World) (h0 : 0 ≤ m) (h1 : m ≤ 1099511628783) :
    Calls Tryd.prog 19 #[.int .i64 m] w fun e w' => e = .returned (.agg #[.int .i64 m, .int .i64 (-m), .int .i64 m]) ∧ w' = w.alloc (.cells #[.int .i64 m, .int .i64 (-m), .int .i64 m] 58) := by
  go_enter Tryd.func19, Tryd.ntmps19
  go_wp2
  exact bodyPost_ret (v := .agg #[.int .i64 m, .int .i64 (-m), .int .i64 m]) (by simp [results, Tryd.results19, go_sem]) rfl ⟨rfl, rfl⟩
theorem HeldSt.drew {w : World} {H N : Nat} {v1 v2 v3 : Value} {hv hn he : List (Value × Int)} (h : HeldSt w H N v1 v2 v3 hv hn he) : HeldSt w.drew H N v1 v2 v3 hv hn he :=
  ⟨h.lt, h.small, h.c0, h.c1, h.c2, h.c3, h.c4, h.c5, h.fz, h.r1, h.r2, h.r3, h.m1, h.m2, h.m3⟩
theorem cell_of {w : World} {g j e : Nat} {cur : Array Value} {x : Value} (h : w.heap[g]? = some (.cells cur e (0, 0))) (hx : cur[j]? = some x) : w.cell? ⟨g, j, none⟩ = some x := by
  rw [cell_of_row w g j cur e (0, 0) h]; exact hx

theorem set_rep3 (a b c : Value) (xs : List Value) (k : Nat) (hk : k * 3 + 2 < xs.length) :
    (((rep [a, b, c] k ++ xs.drop (k * 3)).set (k * 3) a).set (k * 3 + 1) b).set (k * 3 + 2) c = rep [a, b, c] (k + 1) ++ xs.drop ((k + 1) * 3) := by
  have h1 : (rep [a, b, c] k).length = k * 3 := by rw [rep_len]; simp
  have e0 : xs.drop (k * 3) = xs[k * 3] :: xs[k * 3 + 1] :: xs[k * 3 + 2] :: xs.drop ((k + 1) * 3) := by
    rw [List.drop_eq_getElem_cons (by omega), List.drop_eq_getElem_cons (i := k * 3 + 1) (by omega), List.drop_eq_getElem_cons (i := k * 3 + 1 + 1) (by omega)]
    congr 3
    rw [show (k + 1) * 3 = k * 3 + 1 + 1 + 1 from by omega]
  rw [e0, List.set_append_right _ _ (by omega), List.set_append_right _ _ (by omega), List.set_append_right _ _ (by omega), h1]
  rw [show k * 3 - k * 3 = 0 from by omega, show k * 3 + 1 - k * 3 = 1 from by omega, show k * 3 + 2 - k * 3 = 2 from by omega]
  simp only [rep, List.set_cons_zero, List.set_cons_succ, List.append_assoc, List.cons_append, List.nil_append]
/-- What graph leaves. -/
def GraphPost (w : World) (H N : Nat) (hv hn he : List (Value × Int)) (e : Ending) (w' : World) : Prop :=
  e = .returned (.tuple #[]) ∧ ∃ v1 v2 v3 hv' hn' he', HeldSt w' H (N + 3) v1 v2 v3 hv' hn' he' ∧ High H hv' ∧ High H hn' ∧ High H he' ∧ hv'.length = hv.length + 4 ∧ hn'.length = hn.length + 4 ∧ he'.length = he.length + 4 ∧
    Turns H [2, 51, 21, 53, 58, 56] w w'

set_option maxHeartbeats 8000000 in
theorem graph_any (H N B nn nu nx : Nat) (v u x v1 v2 v3 : Value) (hv hn he : List (Value × Int)) (xv xu xx : List Value) (w : World) (h : HeldSt w H N v1 v2 v3 hv hn he) (hN : N + 3 ≤ 1000) (hvl : hv.length + 4 ≤ 1000) (hnl : hn.length + 4 ≤ 1000) (hel : he.length + 4 ≤ 1000)
    (a1 : High H hv) (a2 : High H hn) (a3 : High H he) (hB : H < B) (hBs : B ≤ w.heap.size) (l1 : Lie B hv) (l2 : Lie B hn) (l3 : Lie B he)
    (ov : w.ownsRow B 21 1 v nn xv) (ou : w.ownsRow B 2 1 u nu xu) (ox : w.ownsRow B 58 3 x nx xx) (bn : nn ≤ 90000) (bu : nu ≤ 90000) (bx : nx ≤ 90000) :
    Calls Tryd.prog 16 #[.pointer (some ⟨H, 0, none⟩), graphVal v u x] w (GraphPost w H N hv hn he) := by
  obtain ⟨ti1, ht1, hua, hub, huc⟩ := info_parts Tryd.info_i32
  obtain ⟨ti2, ht2, hva, hvb, hvc⟩ := info_parts Tryd.info_hn
  obtain ⟨ti3, ht3, hwa, hwb, hwc⟩ := info_parts Tryd.info_edge
  obtain ⟨ti4, ht4, hxa, hxb, hxc⟩ := info_parts Tryd.info_he
  obtain ⟨p, cap, rfl, _⟩ := own_slice ov
  obtain ⟨pu, capu, rfl, _⟩ := own_slice ou
  obtain ⟨px, capx, rfl, _⟩ := own_slice ox
  unfold graphVal
  have hX : (w.alloc (.cells #[.slice p nn cap, .slice pu nu capu, .slice px nx capx] 40)).heap[w.heap.size]? = some (.cells #[.slice p nn cap, .slice pu nu capu, .slice px nx capx] 40 (0, 0)) := heap_alloc_new w _
  go_enter Tryd.func16, Tryd.ntmps16
  go_wp2_with fail
  have hlH := h.lt
  refine (values_any H N B nu _ v1 v2 v3 hv hn he xu _ (h.alloc _) (by omega) hvl a1 a2 a3 hB (by simp; omega) l1 (ou.alloc _) bu).mono ?_
  rintro e w2 ⟨rfl, v1', hv', h2, a1', hlen', tu2⟩
  have HLV := hide hlen'
  have hX2 := tu2.keeps hX (by omega) (by decide)
  have ov2 := tu2.own (ov.alloc _) hB (by decide)
  have ox2 := tu2.own (ox.alloc _) hB (by decide)
  have tw2 : Turns H [2, 51, 21, 53] (w.alloc (.cells #[.slice p nn cap, .slice pu nu capu, .slice px nx capx] 40)) w2 := tu2.wider (by simp)
  clear tu2 hlen'
  have c0 := h2.c0
  have f0 := h2.fz 0
  go_wp2_with fail
  refine (mark_any H (N + 1) _ (by omega) c0 f0).mono ?_
  rintro e w3 ⟨rfl, hw3⟩
  have h3 := h2.setN a1'.off a2.off a3.off (by omega)
  have t23 := Turns.setH H [2, 51, 21, 53] w2 0 (.int .i64 ((N + 1 + 1 : Nat) : Int))
  have ov3 := own_setH ov2 (H := H) (fun e => by have := (ov2.lt H e).1; omega) 0 (.int .i64 ((N + 1 + 1 : Nat) : Int))
  rw [← hw3] at h3 t23 ov3
  have tw3 := tw2.trans t23
  generalize hm : (1099511627783 + ((N + 1 + 1 : Nat) : Int)) = m
  have hm0 : 0 ≤ m := by omega
  have hm1 : m ≤ 1099511628783 := by omega
  clear hm hw3 c0 f0 h2 ov2 t23 tw2 hX2 ox2 h
  have hx0 := cell_of (j := 0) (tw3.keeps hX (by omega) (by decide)) rfl
  go_wp2_with fail
  go_loopw [5] (fun i wr => ∃ k : Nat, k ≤ nn ∧ i = .int .i64 k ∧ HeldSt wr H (N + 1 + 1) v1' v2 v3 hv' hn he ∧ wr.ownsRow B 21 1 (.slice p nn cap) nn (rep (mkN m) k ++ xv.drop k) ∧ Turns H [2, 51, 21, 53] (w.alloc (.cells #[.slice p nn cap, .slice pu nu capu, .slice px nx capx] 40)) wr) (fun i _ => nn - (intOf i).toNat)
  case atStart => exact ⟨0, Nat.zero_le _, rfl, h3, by simpa [rep] using ov3, tw3⟩
  case round =>
    clear h3 ov3 tw3 hx0
    obtain ⟨k, hk, rfl, h3, ov3, tw3⟩ := hrel
    have hx0 := cell_of (j := 0) (tw3.keeps hX (by omega) (by decide)) rfl
    by_cases hlt : k < nn
    · obtain ⟨g, cap', hp⟩ := own_form ov3 (by omega)
      injection hp with hp1 hp2 hp3
      subst hp1 hp3
      have hxl : xv.length = nn := by
        have := ov3.1
        rw [List.length_append, rep_len, List.length_drop] at this
        simp [mkN] at this; omega
      have hc0 : wr.cell? ⟨g, k, none⟩ = some xv[k] := by
        rw [ov3.cellAt k (by omega), List.getElem?_append_right (by rw [rep_len]; simp [mkN]), rep_len]
        simp [hxl, hlt, mkN]
      have hf := ov3.frozenAt k
      have hst := ov3.stored k (.int .i32 (m % 1000000007))
      rw [show mkN m = [Value.int .i32 (m % 1000000007)] from rfl, set_rep _ _ _ (by omega)] at hst
      have hgB : B ≤ g := (ov3.lt g rfl).1
      have hXg : w.heap.size ≠ g := fun e => by
        rcases ov3.2 with ⟨e1, _⟩ | ⟨g', cap', cur, e1, _, e2, _⟩
        · cases e1
        · injection e1 with e1
          injection e1 with e1
          injection e1 with e1
          subst e1
          have e3 := tw3.keeps hX (by omega) (by decide)
          rw [e, e2] at e3
          injection e3 with e3
          injection e3 with _ e3
          cases e3
      have h4 := h3.grown hst.2 (by simp; omega) (own_ne h3.r1 ov3 (by decide)) (own_ne h3.r2 ov3 (by decide)) (own_ne h3.r3 ov3 (by decide))
        (fun q hq => (h3.m1 q hq).other ov3 hst.2 (by decide))
        (fun q hq => (h3.m2 q hq).kept hst.2 (.inr (fun e => by have := l2 q hq g e; omega))) (fun q hq => (h3.m3 q hq).other ov3 hst.2 (by decide))
      have t34 := tw3.trans (Turns.setRow ov3 rfl hB (by simp) k (.int .i32 (m % 1000000007)))
      have HR := hide (And.intro h4 (And.intro hst.1 t34))
      clear h4 hst t34 h3 tw3
      have hk0 : (0 : Int) ≤ (k : Int) := Int.natCast_nonneg _
      have hk1 : (k : Int) < (nn : Int) := by omega
      go_wp2_with fail
      go_region_held3 (fun w' => w'.cell? ⟨w.heap.size, 0, none⟩ = some (.slice (some ⟨g, 0, none⟩) nn cap))
        (first | (go_keep; done) | (exact (World.cell?_setCell_other _ _ _ _ (by simp [hXg])).trans hx0))
        (first | (go_at_call 18; refine (markRune_any m _ hm0 hm1).mono ?_; rintro e w' ⟨rfl, rfl⟩))
      go_wp2
      go_roundw
      case rel => exact ⟨k + 1, by omega, by go_num, (unhide HR).1.drew, (unhide HR).2.1, (unhide HR).2.2.trans (Turns.drew _ _ _)⟩
      case measure => simp [intOf]; omega
    · obtain rfl : k = nn := by omega
      have ov4 : wr.ownsRow B 21 1 (.slice p k cap) k (rep (mkN m) k) := by
        have hx : xv.drop k = [] := by
          apply List.drop_of_length_le
          have := ov3.1
          rw [List.length_append, rep_len, List.length_drop] at this
          simp [mkN] at this; omega
        rw [hx, List.append_nil] at ov3; exact ov3
      have hBr : B ≤ wr.heap.size := by have := tw3.size; simp at this; omega
      clear ov3 ov
      go_wp2_with fail
      go_loopw [6, 7] (fun gv j wr => ∃ (r : Nat) (v2 : Value) (hn' : List (Value × Int)), r ≤ 3 ∧ j = .int .i64 r ∧ hn'.length = hn.length + r ∧ HeldSt wr H (N + 1 + 1) v1' v2 v3 hv' hn' he ∧ High H hn' ∧ wr.ownsRow B 21 1 gv (k + r) (rep (mkN m) (k + r)) ∧ Lists wr 21 1 mkN gv (k + r) hn' ∧ B ≤ wr.heap.size ∧ Turns H [2, 51, 21, 53] (w.alloc (.cells #[.slice p k cap, .slice pu nu capu, .slice px nx capx] 40)) wr) (fun _ j _ => 3 - (intOf j).toNat)
      case atStart => exact ⟨0, v2, hn, by omega, rfl, rfl, h3, a2, ov4, Lists.start h3.m2 l2 ov4, hBr, tw3⟩
      case round =>
        clear h3 tw3 ov4 hBr hx0
        obtain ⟨r, v2, hn', hr, rfl, hlen, h1, a2', hl2, hls, hBr, t01⟩ := hrel
        have hle : hn'.length ≤ 999 := by omega
        have HLE := hide hlen
        clear hlen
        have hc0 := h1.c2
        have hf0 := h1.fz 2
        have hsm := h1.small
        have hGl := h1.lt
        obtain ⟨p6, cap6, rfl, _⟩ := own_slice hl2
        have a2s := High.snoc a2' hl2 hB m ⟨hm0, hm1⟩
        by_cases hlt : r < 3
        · go_wp2_with (first
            | (at_builtin; go_must (refine wpList_append_lies _ rfl (.tmp 40) (.tmp 44) 24 rfl (H + 1) 53 ti2 _ 2 32 Tryd.underlying24 ht2 hva hvb hvc rfl (by omega) v2 _ _ rfl (h1.r2.alloc _) ⟨wr.heap.size, 0, none⟩ 1 1 [.slice p6 (k + r) cap6, .int .i64 m] rfl rfl ?c1 ?c2 (by omega) ?c3 ?c4 ?c5 (wr.heap.size + 1) ?c6 ?_))
            | go_in)
          case c1 =>
            intro j u hj
            match j, hj with
            | 0, hj => simp at hj; subst hj; simp [Addr.add]
            | 1, hj => simp at hj; subst hj; simp [Addr.add]
          case c2 => intro u hu; simp at hu; rcases hu with rfl | rfl <;> rfl
          case c3 => unfold maxLen; omega
          case c4 => omega
          case c5 => simp; omega
          case c6 => simp
          intro gg cp w4 hown2 hgrow2 hat2 hlt2
          have hne0 : some H ≠ v2.ownBlock := fun e => by have := (h1.r2.lt H e.symm).1; omega
          have hq0 : w4.cell? ⟨H, 2, none⟩ = some v2 := (hgrow2.cell_far ⟨H, 2, none⟩ (by simp; omega) hne0).trans (h1.alloc _).c2
          have hq1 : w4.frozen? ⟨H, 2, none⟩ = false := (hgrow2.frozen_far ⟨H, 2, none⟩ (by simp; omega) hne0).trans ((h1.alloc _).fz 2)
          have hmk : Marked (wr.alloc (.cells #[.slice p6 (k + r) cap6, .int .i64 m] 53)) 21 1 mkN (.slice p6 (k + r) cap6, m) := ⟨k + r, by omega, own_zero (hl2.alloc _)⟩
          have h3 := (h1.alloc _).app2 a1'.off a2s.off a3.off hown2 hgrow2 hmk (by omega)
          have hl3 := own_setH (own_app (h1.r2.alloc _) (hl2.alloc _) (by decide) hgrow2) (H := H) (fun e => by have := (hl2.lt H e).1; omega) 2 (.slice (some ⟨gg, 0, none⟩) (hn'.length + 1) cp)
          have hls3 : Lists (w4.setCell ⟨H, 2, none⟩ (.slice (some ⟨gg, 0, none⟩) (hn'.length + 1) cp)) 21 1 mkN (.slice p6 (k + r) cap6) (k + r) (hn' ++ [(.slice p6 (k + r) cap6, m)]) := by
            refine Lists.setH ?_ a2s.off _ _
            have hla : Lists (wr.alloc (.cells #[.slice p6 (k + r) cap6, .int .i64 m] 53)) 21 1 mkN (.slice p6 (k + r) cap6) (k + r) hn' := fun q hq => by
              obtain ⟨n', b1, b2, b3⟩ := hls q hq
              exact ⟨n', b1, b2.alloc _, b3⟩
            exact (hla.snoc (by omega) (own_zero (hl2.alloc _))).other (h1.r2.alloc _) hgrow2 (by decide)
          have t3 := ((t01.trans (Turns.alloc H _ wr (by omega) (.cells #[.slice p6 (k + r) cap6, .int .i64 m] 53))).trans (Turns.grown (h1.r2.alloc _) hgrow2 (by omega) (by simp; omega) (by simp))).trans (Turns.setH H _ w4 2 (.slice (some ⟨gg, 0, none⟩) (hn'.length + 1) cp))
          have hz2 := hgrow2.size
          simp at hz2
          clear hown2 hgrow2 hat2 hlt2 hne0 hmk h1 hl2 hls t01
          go_wp2_with (first
            | (go_at_call 18; refine (markRune_any m _ hm0 hm1).mono ?_; rintro e w' ⟨rfl, rfl⟩)
            | (at_builtin; go_must (refine wpList_append_keeps _ rfl (.tmp 48) (.tmp 51) 36 rfl B 21 ti1 _ 1 4 Tryd.underlying36 ht1 hua hub huc rfl (by omega) _ _ _ rfl (hl3.alloc _) ⟨w4.heap.size, 0, none⟩ 1 1 (by omega) [.int .i32 (m % 1000000007)] rfl rfl ?d1 ?d2 ?d3 ?d4 ?d5 ?_))
            | go_in)
          case d1 =>
            intro j u hj
            match j, hj with
            | 0, hj => simp at hj; subst hj; simp only [Addr.add_lit, Nat.add_zero]; exact new_cell _ _ _ _ _ _ (by simp) rfl
          case d2 => intro u hu; simp at hu; subst hu; rfl
          case d3 => unfold maxLen; omega
          case d4 => omega
          case d5 => simp; omega
          intro v5 w5 hl5 hg5 hat5 hk5
          have hls5 := (show Lists ((w4.setCell ⟨H, 2, none⟩ (.slice (some ⟨gg, 0, none⟩) (hn'.length + 1) cp)).alloc (.cells #[.int .i32 (m % 1000000007)] 21)) 21 1 mkN (.slice p6 (k + r) cap6) (k + r) (hn' ++ [(.slice p6 (k + r) cap6, m)]) from fun q hq => by
            obtain ⟨n', b1, b2, b3⟩ := hls3 q hq
            exact ⟨n', b1, b2.alloc _, b3⟩).next hg5 (by simpa using hat5) hk5
          have hneH : some H ≠ (Value.slice p6 (k + r) cap6).ownBlock := fun e => by have := (hl3.lt H e.symm).1; omega
          have h5 := (h3.alloc _).grown hg5 hneH (own_ne h3.r1 hl3 (by decide)) (own_ne h3.r2 hl3 (by decide)) (own_ne h3.r3 hl3 (by decide))
            (fun q hq => ((h3.alloc _).m1 q hq).other (hl3.alloc _) hg5 (by decide)) hls5.marked (fun q hq => ((h3.alloc _).m3 q hq).other (hl3.alloc _) hg5 (by decide))
          have t5 := (t3.trans (Turns.alloc H _ _ (by simp; omega) (.cells #[.int .i32 (m % 1000000007)] 21))).trans (Turns.grown (hl3.alloc _) hg5 hB (by simp; omega) (by simp))
          have hz5 := hg5.size
          simp at hz5
          have HR := hide (And.intro h5 (And.intro hls5 (And.intro t5 hl5)))
          clear hls5 h5 t5 hl5 h3 hl3 hls3 t3 hk5 hg5 hat5
          go_wp2
          go_roundw
          case rel => exact ⟨r + 1, _, _, by omega, by go_num, by rw [List.length_append, unhide HLE]; simp; omega, (unhide HR).1, a2s, (unhide HR).2.2.2, (unhide HR).2.1, by omega, (unhide HR).2.2.1⟩
          case measure => simp [intOf]; omega
        · obtain rfl : r = 3 := by omega
          go_wp2_with (first
            | (at_builtin; go_must (refine wpList_append_lies _ rfl (.tmp 57) (.tmp 61) 24 rfl (H + 1) 53 ti2 _ 2 32 Tryd.underlying24 ht2 hva hvb hvc rfl (by omega) v2 _ _ rfl (h1.r2.alloc _) ⟨wr.heap.size, 0, none⟩ 1 1 [.slice p6 (k + 3) cap6, .int .i64 m] rfl rfl ?e1 ?e2 (by omega) ?e3 ?e4 ?e5 (wr.heap.size + 1) ?e6 ?_))
            | go_in)
          case e1 =>
            intro j u hj
            match j, hj with
            | 0, hj => simp at hj; subst hj; simp [Addr.add]
            | 1, hj => simp at hj; subst hj; simp [Addr.add]
          case e2 => intro u hu; simp at hu; rcases hu with rfl | rfl <;> rfl
          case e3 => unfold maxLen; omega
          case e4 => omega
          case e5 => simp; omega
          case e6 => simp
          intro gg cp w4 hown2 hgrow2 hat2 hlt2
          have hne0 : some H ≠ v2.ownBlock := fun e => by have := (h1.r2.lt H e.symm).1; omega
          have hq0 : w4.cell? ⟨H, 2, none⟩ = some v2 := (hgrow2.cell_far ⟨H, 2, none⟩ (by simp; omega) hne0).trans (h1.alloc _).c2
          have hq1 : w4.frozen? ⟨H, 2, none⟩ = false := (hgrow2.frozen_far ⟨H, 2, none⟩ (by simp; omega) hne0).trans ((h1.alloc _).fz 2)
          have hmk : Marked (wr.alloc (.cells #[.slice p6 (k + 3) cap6, .int .i64 m] 53)) 21 1 mkN (.slice p6 (k + 3) cap6, m) := ⟨k + 3, by omega, own_zero (hl2.alloc _)⟩
          have h3 := (h1.alloc _).app2 a1'.off a2s.off a3.off hown2 hgrow2 hmk (by omega)
          have hl3 := own_setH (own_app (h1.r2.alloc _) (hl2.alloc _) (by decide) hgrow2) (H := H) (fun e => by have := (hl2.lt H e).1; omega) 2 (.slice (some ⟨gg, 0, none⟩) (hn'.length + 1) cp)
          have hls3 : Lists (w4.setCell ⟨H, 2, none⟩ (.slice (some ⟨gg, 0, none⟩) (hn'.length + 1) cp)) 21 1 mkN (.slice p6 (k + 3) cap6) (k + 3) (hn' ++ [(.slice p6 (k + 3) cap6, m)]) := by
            refine Lists.setH ?_ a2s.off _ _
            have hla : Lists (wr.alloc (.cells #[.slice p6 (k + 3) cap6, .int .i64 m] 53)) 21 1 mkN (.slice p6 (k + 3) cap6) (k + 3) hn' := fun q hq => by
              obtain ⟨n', b1, b2, b3⟩ := hls q hq
              exact ⟨n', b1, b2.alloc _, b3⟩
            exact (hla.snoc (by omega) (own_zero (hl2.alloc _))).other (h1.r2.alloc _) hgrow2 (by decide)
          have t3 := ((t01.trans (Turns.alloc H _ wr (by omega) (.cells #[.slice p6 (k + 3) cap6, .int .i64 m] 53))).trans (Turns.grown (h1.r2.alloc _) hgrow2 (by omega) (by simp; omega) (by simp))).trans (Turns.setH H _ w4 2 (.slice (some ⟨gg, 0, none⟩) (hn'.length + 1) cp))
          have hz2 := hgrow2.size
          simp at hz2
          clear hown2 hgrow2 hat2 hlt2 hne0 hmk h1 hl2 hls t01
          go_wp2_with fail
          have HLN : Hid ((hn' ++ [(Value.slice p6 (k + 3) cap6, m)]).length = hn.length + 4) := by show _ = _; rw [List.length_append, unhide HLE]; simp
          have ox3 := t3.own (ox.alloc _) hB (by decide)
          have te := t3.wider (es' := [2, 51, 21, 53, 58, 56]) (by simp)
          clear hl3 hls3 t3 hq0 hq1 hle HLE hc0 hf0 hsm
          generalize hWA : w4.setCell ⟨H, 2, none⟩ (.slice (some ⟨gg, 0, none⟩) (hn'.length + 1) cp) = wA at h3 te ox3 ⊢
          generalize Value.slice (some ⟨gg, 0, none⟩) (hn'.length + 1) cp = v2A at h3
          generalize hn' ++ [(Value.slice p6 (k + 3) cap6, m)] = hnA at h3 a2s HLN
          clear hWA hz2 hBr
          have c0 := h3.c0
          have f0 := h3.fz 0
          refine (mark_any H (N + 1 + 1) _ (by omega) c0 f0).mono ?_
          rintro e wB ⟨rfl, hwB⟩
          have h7 := h3.setN a1'.off a2s.off a3.off (by omega)
          have tB := te.trans (Turns.setH H _ wA 0 (.int .i64 ((N + 1 + 1 + 1 : Nat) : Int)))
          have ox7 := own_setH ox3 (H := H) (fun e => by have := (ox3.lt H e).1; omega) 0 (.int .i64 ((N + 1 + 1 + 1 : Nat) : Int))
          rw [← hwB] at h7 tB ox7
          generalize hm : (1099511627783 + ((N + 1 + 1 + 1 : Nat) : Int)) = me
          have hme0 : 0 ≤ me := by omega
          have hme1 : me ≤ 1099511628783 := by omega
          clear hm hwB c0 f0 h3 te ox3
          have hx2 := cell_of (j := 2) (tB.keeps hX (by omega) (by decide)) rfl
          go_wp2_with fail
          go_loopw [8] (fun i wr => ∃ q : Nat, q ≤ nx ∧ i = .int .i64 q ∧ HeldSt wr H (N + 1 + 1 + 1) v1' v2A v3 hv' hnA he ∧ wr.ownsRow B 58 3 (.slice px nx capx) nx (rep (mkE me) q ++ xx.drop (q * 3)) ∧ Turns H [2, 51, 21, 53, 58, 56] (w.alloc (.cells #[.slice p k cap, .slice pu nu capu, .slice px nx capx] 40)) wr) (fun i _ => nx - (intOf i).toNat)
          case atStart => exact ⟨0, Nat.zero_le _, rfl, h7, by simpa [rep] using ox7, tB⟩
          case round =>
            clear h7 ox7 tB hx2
            obtain ⟨q, hq, rfl, h7, ox7, tB⟩ := hrel
            have hx2 := cell_of (j := 2) (tB.keeps hX (by omega) (by decide)) rfl
            by_cases hltq : q < nx
            · obtain ⟨g, cap', hp⟩ := own_form ox7 (by omega)
              injection hp with hp1 hp2 hp3
              subst hp1 hp3
              have hxl : xx.length = nx * 3 := by
                have := ox7.1
                rw [List.length_append, rep_len, List.length_drop] at this
                simp [mkE] at this; omega
              have hcj : ∀ j, j < 3 → ∃ y, wr.cell? ⟨g, q * 3 + j, none⟩ = some y := fun j hj => by
                rw [ox7.cellAt (q * 3 + j) (by omega), List.getElem?_append_right (by rw [rep_len]; simp [mkE]), rep_len]
                simp only [mkE, List.length_cons, List.length_nil, List.getElem?_drop]
                exact ⟨_, List.getElem?_eq_getElem (by omega)⟩
              obtain ⟨y0, hy0⟩ := hcj 0 (by omega)
              obtain ⟨y1, hy1⟩ := hcj 1 (by omega)
              obtain ⟨y2, hy2⟩ := hcj 2 (by omega)
              rw [Nat.add_zero] at hy0
              have hf0 := ox7.frozenAt (q * 3)
              have hf1 := ox7.frozenAt (q * 3 + 1)
              have hf2 := ox7.frozenAt (q * 3 + 2)
              have s1 := ox7.stored (q * 3) (.int .i64 me)
              have s2 := s1.1.stored (q * 3 + 1) (.int .i64 (-me))
              have s3 := s2.1.stored (q * 3 + 2) (.int .i64 me)
              have s3r := s3.1
              rw [show mkE me = [Value.int .i64 me, .int .i64 (-me), .int .i64 me] from rfl, set_rep3 _ _ _ _ _ (by omega)] at s3r
              have hgB : B ≤ g := (ox7.lt g rfl).1
              have hgl : g < wr.heap.size := (ox7.lt g rfl).2
              have hXl : w.heap.size < wr.heap.size := by have := tB.size; simp at this; omega
              have hXg : w.heap.size ≠ g := fun e => by
                rcases ox7.2 with ⟨e1, _⟩ | ⟨g', cap', cur, e1, _, e2, _⟩
                · cases e1
                · injection e1 with e1
                  injection e1 with e1
                  injection e1 with e1
                  subst e1
                  have e3 := tB.keeps hX (by omega) (by decide)
                  rw [e, e2] at e3
                  injection e3 with e3
                  injection e3 with _ e3
                  cases e3
              have hHg : some H ≠ some g := by simp; omega
              have hfar : ∀ y ∈ he, y.1.ownBlock = none ∨ y.1.ownBlock ≠ some g := fun y hy => .inr (fun e => by have := l3 y hy g e; omega)
              have k1 := h7.grown s1.2 hHg (own_ne h7.r1 ox7 (by decide)) (own_ne h7.r2 ox7 (by decide)) (own_ne h7.r3 ox7 (by decide))
                (fun y hy => (h7.m1 y hy).other ox7 s1.2 (by decide)) (fun y hy => (h7.m2 y hy).other ox7 s1.2 (by decide)) (fun y hy => (h7.m3 y hy).kept s1.2 (hfar y hy))
              have k2 := k1.grown s2.2 hHg (own_ne h7.r1 ox7 (by decide)) (own_ne h7.r2 ox7 (by decide)) (own_ne h7.r3 ox7 (by decide))
                (fun y hy => (k1.m1 y hy).other s1.1 s2.2 (by decide)) (fun y hy => (k1.m2 y hy).other s1.1 s2.2 (by decide)) (fun y hy => (k1.m3 y hy).kept s2.2 (hfar y hy))
              have k3 := k2.grown s3.2 hHg (own_ne h7.r1 ox7 (by decide)) (own_ne h7.r2 ox7 (by decide)) (own_ne h7.r3 ox7 (by decide))
                (fun y hy => (k2.m1 y hy).other s2.1 s3.2 (by decide)) (fun y hy => (k2.m2 y hy).other s2.1 s3.2 (by decide)) (fun y hy => (k2.m3 y hy).kept s3.2 (hfar y hy))
              have hzz := s3.2.size
              have hz1 := s2.2.size
              have hz0 := s1.2.size
              have tC := (((tB.trans (Turns.setRow ox7 rfl hB (by simp) (q * 3) (.int .i64 me))).trans (Turns.setRow s1.1 rfl hB (by simp) (q * 3 + 1) (.int .i64 (-me)))).trans (Turns.setRow s2.1 rfl hB (by simp) (q * 3 + 2) (.int .i64 me))).trans (Turns.alloc H _ _ (by simp; omega) (.cells #[.int .i64 me, .int .i64 (-me), .int .i64 me] 58))
              have HR := hide (And.intro (k3.alloc (.cells #[.int .i64 me, .int .i64 (-me), .int .i64 me] 58)) (And.intro (s3r.alloc (.cells #[.int .i64 me, .int .i64 (-me), .int .i64 me] 58)) tC))
              clear k1 k2 k3 s1 s2 s3 s3r tC h7 tB hcj hfar hzz hz1 hz0
              have hq0' : (0 : Int) ≤ (q : Int) := Int.natCast_nonneg _
              have hq1' : (q : Int) < (nx : Int) := by omega
              go_wp2_with fail
              go_region_held3 (fun w' => w'.cell? ⟨w.heap.size, 2, none⟩ = some (.slice (some ⟨g, 0, none⟩) nx capx))
                (first | (go_keep; done) | (exact far_cell (by simp [World.setCell]; exact hXl) ((World.cell?_setCell_other _ _ _ _ (by simp [hXg])).trans ((World.cell?_setCell_other _ _ _ _ (by simp [hXg])).trans ((World.cell?_setCell_other _ _ _ _ (by simp [hXg])).trans hx2)))))
                (first | (go_at_call 19; refine (markEdge_any me _ hme0 hme1).mono ?_; rintro e w' ⟨rfl, rfl⟩))
              go_wp2
              go_roundw
              case rel => exact ⟨q + 1, by omega, by go_num, (unhide HR).1.drew, (unhide HR).2.1, (unhide HR).2.2.trans (Turns.drew _ _ _)⟩
              case measure => simp [intOf]; omega
            · obtain rfl : q = nx := by omega
              have ox8 : wr.ownsRow B 58 3 (.slice px q capx) q (rep (mkE me) q) := by
                have hx : xx.drop (q * 3) = [] := by
                  apply List.drop_of_length_le
                  have := ox7.1
                  rw [List.length_append, rep_len, List.length_drop] at this
                  simp [mkE] at this; omega
                rw [hx, List.append_nil] at ox7; exact ox7
              have hBr : B ≤ wr.heap.size := by have := tB.size; simp at this; omega
              clear ox7 ox
              go_wp2_with fail
              go_loopw [9, 10] (fun gv j wr => ∃ (r : Nat) (v3 : Value) (he' : List (Value × Int)), r ≤ 3 ∧ j = .int .i64 r ∧ he'.length = he.length + r ∧ HeldSt wr H (N + 1 + 1 + 1) v1' v2A v3 hv' hnA he' ∧ High H he' ∧ wr.ownsRow B 58 3 gv (q + r) (rep (mkE me) (q + r)) ∧ Lists wr 58 3 mkE gv (q + r) he' ∧ B ≤ wr.heap.size ∧ Turns H [2, 51, 21, 53, 58, 56] (w.alloc (.cells #[.slice p k cap, .slice pu nu capu, .slice px q capx] 40)) wr) (fun _ j _ => 3 - (intOf j).toNat)
              case atStart => exact ⟨0, v3, he, by omega, rfl, rfl, h7, a3, ox8, Lists.start h7.m3 l3 ox8, hBr, tB⟩
              case round =>
                clear h7 tB ox8 hBr hx2
                obtain ⟨r, v3, he', hr, rfl, hlen, h1, a3', hl2, hls, hBr, t01⟩ := hrel
                have hle : he'.length ≤ 999 := by omega
                have HLE := hide hlen
                clear hlen
                have hc0 := h1.c3
                have hf0 := h1.fz 3
                have hsm := h1.small
                have hGl := h1.lt
                obtain ⟨p6, cap6, rfl, _⟩ := own_slice hl2
                have a3s := High.snoc a3' hl2 hB me ⟨hme0, hme1⟩
                by_cases hlt : r < 3
                · go_wp2_with (first
                    | (at_builtin; go_must (refine wpList_append_lies _ rfl (.tmp 90) (.tmp 94) 25 rfl (H + 1) 56 ti4 _ 2 32 Tryd.underlying25 ht4 hxa hxb hxc rfl (by omega) v3 _ _ rfl (h1.r3.alloc _) ⟨wr.heap.size, 0, none⟩ 1 1 [.slice p6 (q + r) cap6, .int .i64 me] rfl rfl ?f1 ?f2 (by omega) ?f3 ?f4 ?f5 (wr.heap.size + 1) ?f6 ?_))
                    | go_in)
                  case f1 =>
                    intro j u hj
                    match j, hj with
                    | 0, hj => simp at hj; subst hj; simp [Addr.add]
                    | 1, hj => simp at hj; subst hj; simp [Addr.add]
                  case f2 => intro u hu; simp at hu; rcases hu with rfl | rfl <;> rfl
                  case f3 => unfold maxLen; omega
                  case f4 => omega
                  case f5 => simp; omega
                  case f6 => simp
                  intro gg cp w6 hown2 hgrow2 hat2 hlt2
                  have hne0 : some H ≠ v3.ownBlock := fun e => by have := (h1.r3.lt H e.symm).1; omega
                  have hq0 : w6.cell? ⟨H, 3, none⟩ = some v3 := (hgrow2.cell_far ⟨H, 3, none⟩ (by simp; omega) hne0).trans (h1.alloc _).c3
                  have hq1 : w6.frozen? ⟨H, 3, none⟩ = false := (hgrow2.frozen_far ⟨H, 3, none⟩ (by simp; omega) hne0).trans ((h1.alloc _).fz 3)
                  have hmk : Marked (wr.alloc (.cells #[.slice p6 (q + r) cap6, .int .i64 me] 56)) 58 3 mkE (.slice p6 (q + r) cap6, me) := ⟨q + r, by omega, own_zero (hl2.alloc _)⟩
                  have h3 := (h1.alloc _).app3 a1'.off a2s.off a3s.off hown2 hgrow2 hmk (by omega)
                  have hl3 := own_setH (own_app (h1.r3.alloc _) (hl2.alloc _) (by decide) hgrow2) (H := H) (fun e => by have := (hl2.lt H e).1; omega) 3 (.slice (some ⟨gg, 0, none⟩) (he'.length + 1) cp)
                  have hls3 : Lists (w6.setCell ⟨H, 3, none⟩ (.slice (some ⟨gg, 0, none⟩) (he'.length + 1) cp)) 58 3 mkE (.slice p6 (q + r) cap6) (q + r) (he' ++ [(.slice p6 (q + r) cap6, me)]) := by
                    refine Lists.setH ?_ a3s.off _ _
                    have hla : Lists (wr.alloc (.cells #[.slice p6 (q + r) cap6, .int .i64 me] 56)) 58 3 mkE (.slice p6 (q + r) cap6) (q + r) he' := fun q hq => by
                      obtain ⟨n', b1, b2, b3⟩ := hls q hq
                      exact ⟨n', b1, b2.alloc _, b3⟩
                    exact (hla.snoc (by omega) (own_zero (hl2.alloc _))).other (h1.r3.alloc _) hgrow2 (by decide)
                  have t3 := ((t01.trans (Turns.alloc H _ wr (by omega) (.cells #[.slice p6 (q + r) cap6, .int .i64 me] 56))).trans (Turns.grown (h1.r3.alloc _) hgrow2 (by omega) (by simp; omega) (by simp))).trans (Turns.setH H _ w6 3 (.slice (some ⟨gg, 0, none⟩) (he'.length + 1) cp))
                  have hz2 := hgrow2.size
                  simp at hz2
                  clear hown2 hgrow2 hat2 hlt2 hne0 hmk h1 hl2 hls t01
                  go_wp2_with (first
                    | (go_at_call 19; refine (markEdge_any me _ hme0 hme1).mono ?_; rintro e w' ⟨rfl, rfl⟩)
                    | (at_builtin; go_must (refine wpList_append_keeps _ rfl (.tmp 98) (.tmp 101) 38 rfl B 58 ti3 _ 3 24 Tryd.underlying38 ht3 hwa hwb hwc rfl (by omega) _ _ _ rfl ((hl3.alloc _).alloc _) ⟨w6.heap.size + 1, 0, none⟩ 1 1 (by omega) [.int .i64 me, .int .i64 (-me), .int .i64 me] rfl rfl ?d1e ?d2e ?d3e ?d4e ?d5e ?_))
                    | go_in)
                  case d1e =>
                    intro j u hj
                    match j, hj with
                    | 0, hj => simp at hj; subst hj; simp only [Addr.add_lit, Nat.add_zero]; exact new_cell _ _ _ _ _ _ (by simp) rfl
                    | 1, hj => simp at hj; subst hj; simp only [Addr.add_lit, Nat.zero_add]; exact new_cell _ _ _ _ _ _ (by simp) rfl
                    | 2, hj => simp at hj; subst hj; simp only [Addr.add_lit, Nat.zero_add]; exact new_cell _ _ _ _ _ _ (by simp) rfl
                    | j + 3, hj => simp at hj
                  case d2e => intro u hu; simp at hu; rcases hu with rfl | rfl | rfl <;> rfl
                  case d3e => unfold maxLen; omega
                  case d4e => omega
                  case d5e => simp; omega
                  intro v5 w5 hl5 hg5 hat5 hk5
                  have hls5 := (show Lists (((w6.setCell ⟨H, 3, none⟩ (.slice (some ⟨gg, 0, none⟩) (he'.length + 1) cp)).alloc (.cells #[.int .i64 me, .int .i64 (-me), .int .i64 me] 58)).alloc (.cells #[.int .i64 me, .int .i64 (-me), .int .i64 me] 58)) 58 3 mkE (.slice p6 (q + r) cap6) (q + r) (he' ++ [(.slice p6 (q + r) cap6, me)]) from fun y hy => by
                    obtain ⟨n', b1, b2, b3⟩ := hls3 y hy
                    exact ⟨n', b1, (b2.alloc _).alloc _, b3⟩).next hg5 (by simpa using hat5) hk5
                  have hneH : some H ≠ (Value.slice p6 (q + r) cap6).ownBlock := fun e => by have := (hl3.lt H e.symm).1; omega
                  have h5 := ((h3.alloc _).alloc _).grown hg5 hneH (own_ne h3.r1 hl3 (by decide)) (own_ne h3.r2 hl3 (by decide)) (own_ne h3.r3 hl3 (by decide))
                    (fun y hy => (((h3.alloc _).alloc _).m1 y hy).other ((hl3.alloc _).alloc _) hg5 (by decide)) (fun y hy => (((h3.alloc _).alloc _).m2 y hy).other ((hl3.alloc _).alloc _) hg5 (by decide)) hls5.marked
                  have t5 := ((t3.trans (Turns.alloc H _ _ (by simp; omega) (.cells #[.int .i64 me, .int .i64 (-me), .int .i64 me] 58))).trans (Turns.alloc H _ _ (by simp; omega) (.cells #[.int .i64 me, .int .i64 (-me), .int .i64 me] 58))).trans (Turns.grown ((hl3.alloc _).alloc _) hg5 hB (by simp; omega) (by simp))
                  have hz5 := hg5.size
                  simp at hz5
                  have HR := hide (And.intro h5 (And.intro hls5 (And.intro t5 hl5)))
                  clear hls5 h5 t5 hl5 h3 hl3 hls3 t3 hk5 hg5 hat5
                  go_wp2
                  go_roundw
                  case rel => exact ⟨r + 1, _, _, by omega, by go_num, by rw [List.length_append, unhide HLE]; simp; omega, (unhide HR).1, a3s, (unhide HR).2.2.2, (unhide HR).2.1, by omega, (unhide HR).2.2.1⟩
                  case measure => simp [intOf]; omega
                · obtain rfl : r = 3 := by omega
                  go_wp2_with (first
                    | (at_builtin; go_must (refine wpList_append_lies _ rfl (.tmp 107) (.tmp 111) 25 rfl (H + 1) 56 ti4 _ 2 32 Tryd.underlying25 ht4 hxa hxb hxc rfl (by omega) v3 _ _ rfl (h1.r3.alloc _) ⟨wr.heap.size, 0, none⟩ 1 1 [.slice p6 (q + 3) cap6, .int .i64 me] rfl rfl ?g1 ?g2 (by omega) ?g3 ?g4 ?g5 (wr.heap.size + 1) ?g6 ?_))
                    | go_in)
                  case g1 =>
                    intro j u hj
                    match j, hj with
                    | 0, hj => simp at hj; subst hj; simp [Addr.add]
                    | 1, hj => simp at hj; subst hj; simp [Addr.add]
                  case g2 => intro u hu; simp at hu; rcases hu with rfl | rfl <;> rfl
                  case g3 => unfold maxLen; omega
                  case g4 => omega
                  case g5 => simp; omega
                  case g6 => simp
                  intro gg cp w6 hown2 hgrow2 hat2 hlt2
                  have hne0 : some H ≠ v3.ownBlock := fun e => by have := (h1.r3.lt H e.symm).1; omega
                  have hq0 : w6.cell? ⟨H, 3, none⟩ = some v3 := (hgrow2.cell_far ⟨H, 3, none⟩ (by simp; omega) hne0).trans (h1.alloc _).c3
                  have hq1 : w6.frozen? ⟨H, 3, none⟩ = false := (hgrow2.frozen_far ⟨H, 3, none⟩ (by simp; omega) hne0).trans ((h1.alloc _).fz 3)
                  have hmk : Marked (wr.alloc (.cells #[.slice p6 (q + 3) cap6, .int .i64 me] 56)) 58 3 mkE (.slice p6 (q + 3) cap6, me) := ⟨q + 3, by omega, own_zero (hl2.alloc _)⟩
                  have h3 := (h1.alloc _).app3 a1'.off a2s.off a3s.off hown2 hgrow2 hmk (by omega)
                  have hl3 := own_setH (own_app (h1.r3.alloc _) (hl2.alloc _) (by decide) hgrow2) (H := H) (fun e => by have := (hl2.lt H e).1; omega) 3 (.slice (some ⟨gg, 0, none⟩) (he'.length + 1) cp)
                  have hls3 : Lists (w6.setCell ⟨H, 3, none⟩ (.slice (some ⟨gg, 0, none⟩) (he'.length + 1) cp)) 58 3 mkE (.slice p6 (q + 3) cap6) (q + 3) (he' ++ [(.slice p6 (q + 3) cap6, me)]) := by
                    refine Lists.setH ?_ a3s.off _ _
                    have hla : Lists (wr.alloc (.cells #[.slice p6 (q + 3) cap6, .int .i64 me] 56)) 58 3 mkE (.slice p6 (q + 3) cap6) (q + 3) he' := fun q hq => by
                      obtain ⟨n', b1, b2, b3⟩ := hls q hq
                      exact ⟨n', b1, b2.alloc _, b3⟩
                    exact (hla.snoc (by omega) (own_zero (hl2.alloc _))).other (h1.r3.alloc _) hgrow2 (by decide)
                  have t3 := ((t01.trans (Turns.alloc H _ wr (by omega) (.cells #[.slice p6 (q + 3) cap6, .int .i64 me] 56))).trans (Turns.grown (h1.r3.alloc _) hgrow2 (by omega) (by simp; omega) (by simp))).trans (Turns.setH H _ w6 3 (.slice (some ⟨gg, 0, none⟩) (he'.length + 1) cp))
                  have hz2 := hgrow2.size
                  simp at hz2
                  clear hown2 hgrow2 hat2 hlt2 hne0 hmk h1 hl2 hls t01
                  have HF := hide (And.intro h3 t3)
                  clear h3 t3 hl3 hls3
                  go_wp2
                  go_end0
                  exact ⟨rfl, _, _, _, _, _, _, (unhide HF).1, a1', a2s, a3s, unhide HLV, unhide HLN, by rw [List.length_append, unhide HLE]; simp, (Turns.alloc H _ w (by omega) _).trans (unhide HF).2⟩
end Go.Proofs.YteflnddphpjahaaDoor
