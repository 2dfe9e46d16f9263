import Derived.Test.YteflnddphpjahaaClDkG
/-
  A disk: Read; the face's calls.
-/
set_option linter.unusedVariables false
set_option linter.unusedSimpArgs false
set_option maxRecDepth 100000
namespace Go.Proofs.Yteflnddphpjahaa.Dk
open Go.RowKit

theorem conv_row {w : World} {B : Nat} {v : Value} {b : ByteArray} (h : w.ownsRow B 5 1 v b.size (byteCells b)) : (convert 27 9 v).run Try.prog w = .ok (.string b) w := by
  rcases h.2 with ⟨rfl, h0⟩ | ⟨g, cap, cur, rfl, _, hg, hn, _, hcs, htk⟩
  · have e : b = ByteArray.empty := by
      apply ByteArray.ext
      exact Array.eq_empty_of_size_eq_zero h0
    rw [e]
    exact run_convert_bytes_nil w 27 5 Try.underlying27 Try.underlying5 0 0 9 Try.underlying9
  · refine toStr w g b.size cap b rfl (fun j hj => ?_)
    have hx := h.cellAt j (by omega)
    rw [hx]
    unfold byteCells
    rw [List.getElem?_map, List.getElem?_eq_getElem (by rw [Array.length_toList]; exact hj), ← Sp.bt_of b j hj]
    rfl

def rdErr : Option Nat → Int
  | some _ => 0
  | none => 11
def rdBytes (F : Nat → Fl) : Option Nat → ByteArray
  | some f => (F f).bytes
  | none => ⟨#[]⟩
set_option maxHeartbeats 1000000 in
theorem read_any (B D : Nat) (s : Sk) (F : Nat → Fl) (vn vs vc : Value) (l : Int) (vb : Nat → Value) (y : ByteArray) (w : World) (h : DiskAt w B D s F vn vs vc l vb) (hl : s.names.length ≤ 100000) :
    Calls Try.prog 37 #[.pointer (some ⟨D, 0, none⟩), .string y] w fun e w' => e = .returned (.tuple #[.string (rdBytes F (Sd.tget s.names y)), .int .i64 (rdErr (Sd.tget s.names y))]) ∧ Below w.heap.size w w' := by
  have HD := hide h
  have c6 : w.cell? ⟨D, 6, none⟩ = some (.bool false) := by rw [cell_of_row w D 6 _ _ _ h.blk]; rfl
  have hget := get_any D 1 _ _ vn s.names y w (h.tabN hl)
  cases hf : Sd.tget s.names y with
  | none =>
    have hh : Sd.thas s.names y = false := by
      cases hq : Sd.thas s.names y with
      | false => rfl
      | true => obtain ⟨_, _, e2⟩ := Sd.tget_at h.sn hq; rw [hf] at e2; cases e2
    rw [hh, hf] at hget
    unfold optPtr at hget
    have e1 : rdBytes F none = ⟨#[]⟩ := rfl
    have e2 : rdErr none = 11 := rfl
    rw [e1, e2]
    clear h hl hh hf e1 e2
    go_enter Try.func37, Try.ntmps37
    go_wp2_with fail
    refine hget.mono ?_
    rintro e w1 ⟨rfl, hb⟩
    go_wp2
    go_ret2
    exact ⟨rfl, hb⟩
  | some f =>
    have hmem := (Sd.tget_mem h.sn).1 hf
    have hh : Sd.thas s.names y = true := Sd.thas_mem.2 ⟨f, hmem⟩
    have HH := hide (show s.has f from Or.inl ⟨y, hmem⟩)
    rw [hh, hf] at hget
    unfold optPtr fptr at hget
    have e1 : rdBytes F (some f) = (F f).bytes := rfl
    have e2 : rdErr (some f) = 0 := rfl
    rw [e1, e2]
    clear h hl hh hf e1 e2 hmem
    go_enter Try.func37, Try.ntmps37
    go_wp2_with fail
    refine hget.mono ?_
    rintro e w1 ⟨rfl, hb⟩
    have hff := ((unhide HD).below hb).files f (unhide HH)
    have hfb := hff.blk
    have hrow := hff.row
    obtain ⟨pb, cb, hvb, _⟩ := own_slice hrow
    rw [hvb] at hfb hrow
    have k0 : w1.cell? ⟨f, 0, none⟩ = some (.slice pb (F f).bytes.size cb) := by rw [cell_of_row w1 _ 0 _ _ _ hfb]; rfl
    have hcv := conv_row hrow
    clear hff hfb hrow hvb hget
    go_wp2
    go_ret2
    exact ⟨rfl, hb⟩
theorem fread_any (B D : Nat) (s : Sk) (F : Nat → Fl) (vn vs vc : Value) (l : Int) (vb : Nat → Value) (y : ByteArray) (w : World) (h : DiskAt w B D s F vn vs vc l vb) (hl : s.names.length ≤ 100000) :
    Calls Try.prog 20 #[.pointer (some ⟨D, 0, none⟩), .string y] w fun e w' => e = .returned (.tuple #[.string (rdBytes F (Sd.tget s.names y)), .int .i64 (rdErr (Sd.tget s.names y))]) ∧ Below w.heap.size w w' := by
  have hc := read_any B D s F vn vs vc l vb y w h hl
  generalize rdBytes F (Sd.tget s.names y) = r1 at hc ⊢
  generalize rdErr (Sd.tget s.names y) = r2 at hc ⊢
  clear h hl
  go_enter Try.func20, Try.ntmps20
  go_wp2_with fail
  refine hc.mono ?_
  rintro e w1 ⟨rfl, h⟩
  go_wp2
  go_ret2
  exact ⟨rfl, h⟩
theorem fsync_any (B D : Nat) (s : Sk) (F : Nat → Fl) (vn vs vc : Value) (l : Int) (vb : Nat → Value) (y : ByteArray) (f : Nat) (w : World) (h : DiskAt w B D s F vn vs vc l vb) (hl : s.names.length ≤ 100000) (hf : Sd.tget s.names y = some f) :
    Calls Try.prog 17 #[.pointer (some ⟨D, 0, none⟩), .string y] w (OnPost B D s F vn vs vc l vb f ⟨(F f).bytes, (F f).bytes.size⟩ w) := by
  have hc := sync_any B D s F vn vs vc l vb y f w h hl hf
  clear h hl hf
  go_enter Try.func17, Try.ntmps17
  go_wp2_with fail
  refine hc.mono ?_
  rintro e w1 ⟨rfl, h⟩
  have H := hide h
  clear h hc
  go_wp2
  go_ret
  exact ⟨rfl, unhide H⟩
theorem fappend_any (B D : Nat) (s : Sk) (F : Nat → Fl) (vn vs vc : Value) (l : Int) (vb : Nat → Value) (y t : ByteArray) (f : Nat) (w : World) (h : DiskAt w B D s F vn vs vc l vb) (hl : s.names.length ≤ 100000) (hf : Sd.tget s.names y = some f)
    (hu : ∀ p ∈ s.names, (F p.2).bytes.size ≤ 1099511627776) (ht : t.size ≤ 1099511627776) (hq : ((used F s.names : Nat) : Int) + (t.size : Int) ≤ s.quota) :
    Calls Try.prog 16 #[.pointer (some ⟨D, 0, none⟩), .string y, .string t] w (OnPost B D s F vn vs vc l vb f ⟨(F f).bytes ++ t, (F f).safe⟩ w) := by
  have hc := append_any B D s F vn vs vc l vb y t f w h hl hf hu ht hq
  clear h hl hf hu ht hq
  go_enter Try.func16, Try.ntmps16
  go_wp2_with fail
  refine hc.mono ?_
  rintro e w1 ⟨rfl, h⟩
  have H := hide h
  clear h hc
  go_wp2
  go_ret
  exact ⟨rfl, unhide H⟩
end Go.Proofs.Yteflnddphpjahaa.Dk
