import Derived.Test.YteflnddphpjahaaClDkF
import Derived.Lib.AppendStr
/-
  A disk: Append.
-/
set_option linter.unusedVariables false
set_option linter.unusedSimpArgs false
set_option maxRecDepth 100000
namespace Go.Proofs.Yteflnddphpjahaa.Dk
open Go.RowKit

theorem append_str {P : Program} (w : World) (base : Nat) (t u ty e : TypeId) (i : TypeInfo) (ht : P.underlying t = some (.slice e)) (hu : P.underlying u = some .string) (hi : P.info? e = some i) (hz : i.zero = some (.int .u8 0))
    (hsize : i.size = 1) (hby : i.bytes = 1) (v : Value) (n : Nat) (xs : List Value) (hown : w.ownsRow base e 1 v n xs) (s : ByteArray) (h63 : n + s.size ≤ 140737488355328) (hbase : base ≤ w.heap.size) :
    ∃ p c w', (Builtin.append_ #[t, u] ty #[v, .string s]).run P w = .ok (.slice p (n + s.size) c) w' ∧ w'.ownsRow base e 1 (.slice p (n + s.size) c) (n + s.size) (xs ++ Lib.strCells s) ∧ w.grownBy w' v.ownBlock ∧
      ((Value.slice p (n + s.size) c).ownBlock = v.ownBlock ∨ (Value.slice p (n + s.size) c).ownBlock = some w.heap.size) := by
  obtain ⟨v', w', hr, ho, hg, hnil⟩ := Lib.run_append_own_string (P := P) w base t u ty e i ht hu hi hz hsize hby v n xs hown s (by unfold maxLen; omega) h63 hbase
  obtain ⟨p, c, rfl, _⟩ := own_slice ho
  refine ⟨p, c, w', hr, ho, hg, ?_⟩
  have hxl : xs.length = n := by simpa using hown.1
  rcases hown.2 with ⟨rfl, rfl⟩ | ⟨g, cap, cur, rfl, hbg, hgg, hnc, hcm, hcs, htake⟩
  · by_cases hm : s.size = 0
    · have := hnil.2 ⟨rfl, hm⟩
      rw [this]; exact Or.inl rfl
    · have hr2 := run_append_nil_string (P := P) w t u ty e i (.int .u8 0) ht hu hi hz s (by omega) (by omega) (by rw [hby]; omega)
      rw [hr2] at hr
      injection hr with e1 e2
      rw [← e1]; exact Or.inr rfl
  · by_cases hroom : n + s.size ≤ cap
    · have hcs' : cur.size = cap := by simpa using hcs
      have hr2 := Lib.run_append_room_string (P := P) w t u ty e i ht hu hi hsize g n cap cur hgg s hroom (by omega)
      rw [hr2] at hr
      injection hr with e1 e2
      rw [← e1]; exact Or.inl rfl
    · have holds : ∀ j u, xs[j]? = some u → w.cell? ((⟨g, 0, none⟩ : Addr).add j) = some u := hown.cells (g := g) rfl
      have hr2 := Lib.run_append_grow_string (P := P) w t u ty e i (.int .u8 0) ht hu hi hz ⟨g, 0, none⟩ n cap xs (by rw [hsize]; simpa using hxl) holds s (by omega) (by omega) (by rw [hby]; exact growslice_fits (by omega) (by omega))
      rw [hr2] at hr
      injection hr with e1 e2
      rw [← e1]; exact Or.inr rfl
theorem byteCells_app (a b : ByteArray) : byteCells (a ++ b) = byteCells a ++ Lib.strCells b := by
  unfold byteCells Lib.strCells
  rw [ByteArray.data_append, Array.toList_append, List.map_append]

set_option maxHeartbeats 1000000 in
theorem append_any (B D : Nat) (s : Sk) (F : Nat → Fl) (vn vs vc : Value) (l : Int) (vb : Nat → Value) (y t : ByteArray) (f : Nat) (w : World) (h : DiskAt w B D s F vn vs vc l vb) (hl : s.names.length ≤ 100000) (hf : Sd.tget s.names y = some f)
    (hu : ∀ p ∈ s.names, (F p.2).bytes.size ≤ 1099511627776) (ht : t.size ≤ 1099511627776) (hq : ((used F s.names : Nat) : Int) + (t.size : Int) ≤ s.quota) :
    Calls Try.prog 33 #[.pointer (some ⟨D, 0, none⟩), .string y, .string t] w (OnPost B D s F vn vs vc l vb f ⟨(F f).bytes ++ t, (F f).safe⟩ w) := by
  obtain ⟨i0, hi, hz0, hz1, hz2⟩ := info_parts Try.info_u8
  have HD := hide h
  have hon := operatesOn_any B D s F vn vs vc l vb y w h hl
  have hmem := (Sd.tget_mem h.sn).1 hf
  have hth : Sd.thas s.names y = true := Sd.thas_mem.2 ⟨f, hmem⟩
  have hhas : s.has f := Or.inl ⟨y, hmem⟩
  have hfs : (F f).bytes.size ≤ 1099511627776 := hu (y, f) hmem
  rw [hf, hth] at hon
  have e0 : onErr true = 0 := rfl
  rw [e0] at hon
  unfold optPtr fptr at hon
  have HH := hide hhas
  have hul : used F s.names ≤ 109951162777600000 := by
    have h1 := used_le F s.names.attach hu
    rw [List.attach_map_subtype_val, List.length_attach] at h1
    exact Nat.le_trans h1 (Nat.le_trans (Nat.mul_le_mul_right 1099511627776 hl) (by decide))
  have hua := fun W (hW : Below w.heap.size w W) => used_any B D s F vn vs vc l vb W (h.below hW) hl hu
  generalize used F s.names = U at hua hq hul
  clear h hmem hth hf hhas e0
  go_enter Try.func33, Try.ntmps33
  go_wp2_with fail
  refine hon.mono ?_
  rintro e w1 ⟨rfl, hb⟩
  have hd1 := (unhide HD).below hb
  have hdb := hd1.blk
  have hDw1 : D < w1.heap.size := lt_of_block hdb
  have q0 : w1.cell? ⟨D, 0, none⟩ = some (.int .i64 s.quota) := by rw [cell_of_row w1 _ 0 _ _ _ hdb]; rfl
  have HB := hide hb
  have HUA := hide hua
  obtain ⟨q, hq0⟩ : ∃ q, s.quota = q := ⟨_, rfl⟩
  rw [hq0] at q0 hq
  have hq' : (U : Int) + (t.size : Int) ≤ q := hq
  have hq'' : IntKind.i64.wrap ((U : Int) + (t.size : Int)) ≤ q := by rw [IntKind.wrap_i64]; omega
  clear hon hb hd1 hdb hua hq
  go_wp2_with fail
  go_region_with (go_at_call 52; refine ((unhide HUA) _ (by first | exact (unhide HB) | exact (unhide HB).drew)).mono ?_; rintro e w2 ⟨rfl, hb2⟩; have q2 : w2.cell? ⟨D, 0, none⟩ = some (.int .i64 q) := (hb2.cell (p := ⟨D, 0, none⟩) (by first | exact hDw1 | simpa using hDw1)).trans q0)
  all_goals
    have hb12 : Below w.heap.size w w2 := (unhide HB).drew.trans (hb2.mono (by have := (unhide HB).size; simpa using this))
    have hd2 := (unhide HD).below hb12
    have hff := hd2.files f (unhide HH)
    obtain ⟨pb, cb, hvb, _⟩ := own_slice hff.row
    have hfb := hff.blk
    rw [hvb] at hfb
    have hrow := hff.row
    rw [hvb] at hrow
    have k0 : w2.cell? ⟨f, 0, none⟩ = some (.slice pb (F f).bytes.size cb) := by rw [cell_of_row w2 _ 0 _ _ _ hfb]; rfl
    have kf : w2.frozen? ⟨f, 0, none⟩ = false := by simp [World.frozen?, hfb]
    have hBw2 : B ≤ w2.heap.size := by have := hd2.ge; have := lt_of_block hd2.blk; omega
    have hfw : f < w2.heap.size := lt_of_block hfb
    obtain ⟨p3, c3, w3, hr, ho3, hg3, hn3⟩ := append_str (P := Try.prog) w2 B 27 9 27 5 i0 Try.underlying27 Try.underlying9 hi hz0 hz1 hz2 (.slice pb (F f).bytes.size cb) _ _ hrow t (by omega) hBw2
    have hnf : some f ≠ (Value.slice pb (F f).bytes.size cb).ownBlock := fun e => by
      obtain ⟨c', hc', _⟩ := own_blk hrow e.symm
      exact blk_ne hc' hfb (by decide) rfl
    have hfb3 : w3.heap[f]? = some (.cells #[.slice pb (F f).bytes.size cb, .int .i64 (F f).safe] 76 (0, 0)) := (hg3.block f hfw hnf).trans hfb
    have k3 : w3.cell? ⟨f, 0, none⟩ = some (.slice pb (F f).bytes.size cb) := by rw [cell_of_row w3 _ 0 _ _ _ hfb3]; rfl
    have kf3 : w3.frozen? ⟨f, 0, none⟩ = false := by simp [World.frozen?, hfb3]
    have H := hide (And.intro hb12 (And.intro hvb (And.intro ho3 (And.intro hg3 (And.intro hn3 hfb3)))))
    clear hb12 hvb ho3 hg3 hn3 hfb3 hd2 hff hfb hrow hb2
    go_wp2_with (first
      | (at_builtin; go_must (refine Lib.wpList_append_run _ rfl (.tmp 32) (.tmp 33) _ _ rfl _ _ rfl rfl _ _ hr ?_))
      | go_in)
    go_ret
    obtain ⟨hb12, hvb, ho3, hg3, hn3, hfb3⟩ := unhide H
    have hd2 := (unhide HD).below hb12
    have hff := hd2.files f (unhide HH)
    have hkw : Kept w2 (w3.setCell ⟨f, 0, none⟩ (.slice p3 ((F f).bytes.size + t.size) c3)) (fun k => k ≠ f ∧ (vb f).ownBlock ≠ some k) :=
      (Kept.grown hg3 (fun k hk => by rw [← hvb]; exact hk.2)).setCell (fun hk => hk.1 rfl) _
    have hx : FileAt (w3.setCell ⟨f, 0, none⟩ (.slice p3 ((F f).bytes.size + t.size) c3)) B f ⟨(F f).bytes ++ t, (F f).safe⟩ (.slice p3 ((F f).bytes.size + t.size) c3) := by
      refine ⟨hff.ge, by rw [heap_setCell_same w3 f 0 _ _ _ hfb3]; rfl, ?_⟩
      show World.ownsRow _ B 5 1 _ ((F f).bytes ++ t).size (byteCells ((F f).bytes ++ t))
      rw [byteCells_app, ByteArray.size_append]
      refine ownsRow_setCell_other ho3 (fun e => ?_) _
      obtain ⟨c', hc', _⟩ := own_blk ho3 e
      exact blk_ne hc' hfb3 (by decide) rfl
    obtain ⟨r1, r2⟩ := disk_file hd2 (unhide HH) hkw hx (by
      rcases hn3 with e | e
      · rw [hvb]; exact Or.inl e
      · exact Or.inr ⟨_, e, Nat.le_refl _⟩)
    exact ⟨rfl, (hb12.mono (by have := (unhide HD).ge; have := lt_of_block (unhide HD).blk; omega)).trans r1, _, r2⟩
end Go.Proofs.Yteflnddphpjahaa.Dk
