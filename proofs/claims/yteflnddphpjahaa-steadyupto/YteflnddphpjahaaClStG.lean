import Derived.Test.YteflnddphpjahaaClStF
import Derived.Test.YteflnddphpjahaaClLoA
/-
  The law Steady.
-/
set_option linter.unusedVariables false
set_option linter.unusedSimpArgs false
set_option maxRecDepth 100000
namespace Go.Proofs.Yteflnddphpjahaa.Dk
open Go.RowKit

def i64 (n : Int) : Prop := -9223372036854775808 ≤ n ∧ n ≤ 9223372036854775807
/-- The acts that are handed in. -/
def ActsAt (w : World) (p : Option Addr) (n : Nat) : Prop := ∀ i, i < n → ∃ g o k a b c, p = some ⟨g, o, none⟩ ∧ g < w.heap.size ∧ w.cell? ⟨g, o + i * 4, none⟩ = some (.int .i64 k) ∧ w.cell? ⟨g, o + i * 4 + 1, none⟩ = some (.int .i64 a) ∧ w.cell? ⟨g, o + i * 4 + 2, none⟩ = some (.int .i64 b) ∧ w.cell? ⟨g, o + i * 4 + 3, none⟩ = some (.int .i64 c) ∧ i64 k ∧ i64 a ∧ i64 b ∧ i64 c

theorem Inv.used_le {s : Sk} {F : Nat → Fl} {N m : Nat} (hi : Inv s F N m) (hN : N ≤ 10000000) (hm : m ≤ 1000000) : used F s.names ≤ 2460000000 := by
  have h1 : ∀ T : Sd.Tb, used F T ≤ T.length * 20000000 := fun T => by
    induction T with
    | nil => simp [used]
    | cons p r ih =>
      have := hi.sz p.2
      simp only [used, List.map_cons, List.sum_cons, List.length_cons, Nat.succ_mul] at ih ⊢
      omega
  exact Nat.le_trans (h1 s.names) (Nat.le_trans (Nat.mul_le_mul_right 20000000 (short_letters hi.ln.1 hi.ln.2)) (by decide))
theorem keep_below {w w' : World} {B : Nat} {kp : Option Addr} {kn : Nat} {K : Nat → Int} (h : KeepAt w B kp kn K) (hB : w.heap.size = B) (hb : Below B w w') : KeepAt w' B kp kn K :=
  ⟨fun j hj => by
    obtain ⟨g, o, e, hc, _⟩ := h.cell j hj
    have hg : g < B := by rw [← hB]; exact World.block_lt_of_cell? w _ hc
    exact ⟨g, o, e, (hb.cell (p := ⟨g, o + j, none⟩) hg).trans hc, Or.inl hg⟩, h.small⟩

set_option maxHeartbeats 4000000 in
theorem steady_any (pb : Option Addr) (nb cb : Nat) (text : ByteArray) (pa : Option Addr) (na ca : Nat) (more : ByteArray) (dir : Int) (kp : Option Addr) (kn kc : Nat) (K : Nat → Int) (w : World) (hb : ActsAt w pb nb) (ha : ActsAt w pa na) (hK : KeepAt w w.heap.size kp kn K) (h1 : text.size ≤ 1048576) (h2 : more.size ≤ 1048576) (hn : nb + na ≤ 300000) :
    Calls Try.prog 6 #[.slice pb nb cb, .string text, .slice pa na ca, .string more, .int .i64 dir, .slice kp kn kc] w fun e w' => e = .returned (.bool true) ∧ Below w.heap.size w w' := by
  go_enter Try.func6, Try.ntmps6
  go_wp2_with fail
  refine (newDisk_any _ _).mono ?_
  rintro e w1 ⟨rfl, hb1, hd1⟩
  obtain ⟨D, hD⟩ : ∃ D, w.heap.size + 1 = D := ⟨_, rfl⟩
  obtain ⟨B, hB⟩ : ∃ B, w.heap.size = B := ⟨_, rfl⟩
  rw [hD] at hd1 ⊢
  rw [hB] at hd1 hb1
  have hg1 : Disk B D 2097152 0 none w1 := ⟨_, _, _, _, _, _, _, hd1, ⟨rfl, ⟨List.Pairwise.nil, fun p hp => (by cases hp)⟩, ⟨List.Pairwise.nil, fun p hp => (by cases hp)⟩, fun c hc => (by cases hc), Nat.zero_le _, fun f => Nat.zero_le _, fun f => Nat.zero_le _⟩, trivial⟩
  have HG1 := hide hg1
  have HBB := hide hb
  have HAA := hide ha
  have HKK := hide hK
  clear hd1 hg1 hb ha hK
  go_wp2_with fail
  go_loopw [14] (fun ii wr => ∃ i : Nat, i ≤ nb ∧ ii = .int .i64 i ∧ Hid (Disk B D 2097152 i none wr) ∧ Below B w wr) (fun ii _ => nb - (intOf ii).toNat)
  case atStart => exact ⟨0, Nat.zero_le _, rfl, HG1, hb1⟩
  case round =>
    obtain ⟨i, hi, rfl, HDk, hbl⟩ := hrel
    by_cases hlt : i < nb
    · have hlt' : (i : Int) < (nb : Int) := by omega
      obtain ⟨g, o, k, a, b, c, rfl, hg, x0, x1, x2, x3, ⟨k1, k2⟩, ⟨a1, a2⟩, ⟨b1, b2⟩, ⟨c1, c2⟩⟩ := (unhide HBB) i hlt
      have hgB : g < B := by omega
      have y0 := (hbl.cell (p := ⟨g, o + i * 4, none⟩) hgB).trans x0
      have y1 := (hbl.cell (p := ⟨g, o + i * 4 + 1, none⟩) hgB).trans x1
      have y2 := (hbl.cell (p := ⟨g, o + i * 4 + 2, none⟩) hgB).trans x2
      have y3 := (hbl.cell (p := ⟨g, o + i * 4 + 3, none⟩) hgB).trans x3
      clear x0 x1 x2 x3
      go_wp2_with fail
      refine (does_any B D 2097152 i none k a b c _ (unhide HDk) (by omega) (by omega) k1 k2 a1 a2 b1 b2 c1 c2).mono ?_
      rintro e w2 ⟨rfl, hgd⟩
      have H2 := hide hgd
      clear hgd
      go_wp2
      go_roundw
      case rel => exact ⟨i + 1, by omega, by go_num, (unhide H2).2, hbl.trans (unhide H2).1⟩
      case measure => simp [intOf]; omega
    · have hlt' : ¬ (i : Int) < (nb : Int) := by omega
      obtain ⟨s, F, vn, vs, vc, l, vb, hd, hiv, _⟩ := unhide HDk
      have hi' : i ≤ 300000 := by omega
      have hbw : B ≤ wr.heap.size := hd.bw
      go_wp2_with fail
      refine (fcreate_any B D s F vn vs vc l vb zx wr hd (by have := hiv.nc; omega) hiv.nl nx_letter).mono ?_
      rintro e w2 ⟨rfl, hb2, f, vn2, vc2, hf, hd2⟩
      have hfn : ¬ s.has f := fun hh => by have := lt_of_block (hd.files f hh).blk; omega
      have hi2 := (hiv.file f ⟨⟨#[]⟩, 0⟩ (Nat.zero_le _) (Nat.zero_le _)).change (Or.inl ⟨f, rfl, nx_letter, Or.inl rfl⟩ : okCh ⟨⟨#[]⟩, zx, some f⟩) (lets_set hiv.ln nx_letter f)
      have hF2 : (upd F f ⟨⟨#[]⟩, 0⟩) f = ⟨⟨#[]⟩, 0⟩ := upd_same _ _ _
      have honly : ∀ a, (a, f) ∈ Sd.tset s.names zx f → a = zx := fun a h => by
        rcases Sd.tset_mem h with e | h
        · exact congrArg Prod.fst e
        · exact absurd (Or.inl ⟨a, h⟩) hfn
      have hin := tset_in hiv.ln.1 zx f
      have hgt : Sd.tget (Sd.tset s.names zx f) zx = some f := (Sd.tget_mem (Sd.tset_sorted hiv.ln.1 zx f)).2 hin
      generalize upd F f ⟨⟨#[]⟩, 0⟩ = F2 at hd2 hi2 hF2
      generalize upd vb f _ = vb2 at hd2
      have HBl2 : Hid (Below B w w2) := hbl.trans hb2
      have HO := hide honly
      have HI := hide hin
      clear hd hiv hb2 hf hfn hbl honly hin HDk
      go_wp2_with fail
      refine (fappend_any B D _ F2 _ _ _ _ vb2 zx text f w2 hd2 hi2.nl hgt (fun p _ => Nat.le_trans (hi2.sz p.2) (by omega)) (by omega) (by have hq : used F2 (Sd.tset s.names zx f) ≤ 2460000000 := hi2.used_le (by omega) (by omega); have e : s.quota = 1099511627776 := hi2.q; show ((used F2 (Sd.tset s.names zx f) : Nat) : Int) + (text.size : Int) ≤ s.quota; rw [e]; omega)).mono ?_
      rintro e w3 ⟨rfl, hb3, v3, hd3⟩
      have hi3 := hi2.file f ⟨(F2 f).bytes ++ text, (F2 f).safe⟩ (by rw [hF2]; show ((⟨#[]⟩ : ByteArray) ++ text).size ≤ _; rw [app0]; omega) (by rw [hF2]; exact Nat.zero_le _)
      have hF3 : (upd F2 f ⟨(F2 f).bytes ++ text, (F2 f).safe⟩) f = ⟨text, 0⟩ := by rw [upd_same, hF2, app0]
      generalize upd F2 f ⟨(F2 f).bytes ++ text, (F2 f).safe⟩ = F3 at hd3 hi3 hF3
      generalize upd vb2 f _ = vb3 at hd3
      have HBl3 : Hid (Below B w w3) := (unhide HBl2).trans hb3
      clear hd2 hi2 hb3 hF2
      go_wp2_with fail
      refine (fsync_any B D _ F3 _ _ _ _ vb3 zx f w3 hd3 hi3.nl hgt).mono ?_
      rintro e w4 ⟨rfl, hb4, v4, hd4⟩
      have hi4 := hi3.file f ⟨(F3 f).bytes, (F3 f).bytes.size⟩ (hi3.sz f) (Nat.le_refl _)
      have hF4 : (upd F3 f ⟨(F3 f).bytes, (F3 f).bytes.size⟩) f = ⟨text, text.size⟩ := by rw [upd_same, hF3]
      generalize upd F3 f ⟨(F3 f).bytes, (F3 f).bytes.size⟩ = F4 at hd4 hi4 hF4
      generalize upd vb3 f _ = vb4 at hd4
      have HBl4 : Hid (Below B w w4) := (unhide HBl3).trans hb4
      clear hd3 hi3 hb4 hF3
      go_wp2_with fail
      refine (fsyncDir_any B D _ F4 _ _ _ _ vb4 w4 hd4 hi4.nl).mono ?_
      rintro e w5 ⟨rfl, hb5, vs5, hd5⟩
      have hg5 : Disk B D 2097152 (i + 2) (some (f, ⟨text, text.size⟩)) w5 := ⟨_, _, _, _, _, _, _, hd5, hi4.safe, ⟨hF4, unhide HI, unhide HI, unhide HO, unhide HO, fun c hc => (by cases hc)⟩⟩
      have HBl5 : Hid (Below B w w5) := (unhide HBl4).trans hb5
      have HG5 := hide hg5
      clear hd4 hi4 hb5 hF4 hd5 hg5 hgt
      go_wp2_with fail
      go_loopw [19] (fun ii wr => ∃ j : Nat, j ≤ na ∧ ii = .int .i64 j ∧ Hid (Disk B D 2097152 (i + 2 + j) (some (f, ⟨text, text.size⟩)) wr) ∧ Below B w wr) (fun ii _ => na - (intOf ii).toNat)
      case atStart => exact ⟨0, Nat.zero_le _, rfl, HG5, unhide HBl5⟩
      case round =>
        obtain ⟨j, hj, rfl, HDk, hbl⟩ := hrel
        by_cases hlt2 : j < na
        · have hlt2' : (j : Int) < (na : Int) := by omega
          obtain ⟨g, o, k, a, b, c, rfl, hg, x0, x1, x2, x3, ⟨k1, k2⟩, ⟨a1, a2⟩, ⟨b1, b2⟩, ⟨c1, c2⟩⟩ := (unhide HAA) j hlt2
          have hgB : g < B := by omega
          have y0 := (hbl.cell (p := ⟨g, o + j * 4, none⟩) hgB).trans x0
          have y1 := (hbl.cell (p := ⟨g, o + j * 4 + 1, none⟩) hgB).trans x1
          have y2 := (hbl.cell (p := ⟨g, o + j * 4 + 2, none⟩) hgB).trans x2
          have y3 := (hbl.cell (p := ⟨g, o + j * 4 + 3, none⟩) hgB).trans x3
          clear x0 x1 x2 x3
          go_wp2_with fail
          refine (does_any B D 2097152 (i + 2 + j) (some (f, ⟨text, text.size⟩)) k a b c _ (unhide HDk) (by omega) (by omega) k1 k2 a1 a2 b1 b2 c1 c2).mono ?_
          rintro e w6 ⟨rfl, hgd⟩
          have H2 := hide hgd
          clear hgd
          go_wp2
          go_roundw
          case rel => exact ⟨j + 1, by omega, by go_num, (unhide H2).2, hbl.trans (unhide H2).1⟩
          case measure => simp [intOf]; omega
        · have hlt2' : ¬ (j : Int) < (na : Int) := by omega
          obtain ⟨s, F, vn, vs, vc, l, vb, hd, hiv, hx⟩ := unhide HDk
          have hx : Holds s F zx f ⟨text, text.size⟩ := hx
          have hgt : Sd.tget s.names zx = some f := (Sd.tget_mem hiv.ln.1).2 hx.inN
          clear HDk
          go_wp2_with fail
          refine (fappend_any B D s F vn vs vc l vb zx more f _ hd hiv.nl hgt (fun p _ => Nat.le_trans (hiv.sz p.2) (by omega)) (by omega) (by have hq := hiv.used_le (by omega) (by omega); rw [hiv.q]; omega)).mono ?_
          rintro e w7 ⟨rfl, hb7, v7, hd7⟩
          have hi7 := hiv.file f ⟨(F f).bytes ++ more, (F f).safe⟩ (by rw [hx.is]; show (text ++ more).size ≤ _; rw [ByteArray.size_append]; omega) (by rw [hx.is]; show text.size ≤ (text ++ more).size; rw [ByteArray.size_append]; omega)
          have hx7 : Holds s (upd F f ⟨(F f).bytes ++ more, (F f).safe⟩) zx f ⟨text ++ more, text.size⟩ := ⟨by rw [upd_same, hx.is], hx.inN, hx.inS, hx.onlyN, hx.onlyS, hx.chs⟩
          generalize upd F f ⟨(F f).bytes ++ more, (F f).safe⟩ = F7 at hd7 hi7 hx7
          generalize upd vb f _ = vb7 at hd7
          have hbl7 : Below B w w7 := hbl.trans hb7
          have hbw7 : B ≤ w7.heap.size := hd7.bw
          have HBl7 := hide hbl7
          have hK7 := keep_below (unhide HKK) rfl (by rw [hB]; exact hbl7)
          rw [hB] at hK7
          clear hd hb7 hbl hbl7 hiv hx
          go_wp2_with fail
          refine (fcrash_any B D s F7 vn vs vc l vb7 dir kp kn kc K apG w7 hd7 (by have := hi7.nc; omega) hK7 hi7.sf lets hi7.ls (makesG D s.chs hi7.lc)).mono ?_
          rintro e w8 ⟨rfl, hb8, v8, vs8, vb8, hd8⟩
          obtain ⟨t1, t2, n, hn2, t3⟩ := crash_holds hi7 hx7 dir (keptK kn K)
          have hTl : (crT s dir apG).length ≤ 100000 := Nat.le_trans (short_letters t1.1 t1.2) (by omega)
          have HBl8 : Hid (Below B w w8) := (unhide HBl7).trans hb8
          have hbw8 : B ≤ w8.heap.size := hd8.bw
          clear hd7 hb8 hi7 hx7 hK7
          go_wp2_with fail
          refine (fread_any B D _ _ _ _ _ _ vb8 zx w8 hd8 hTl).mono ?_
          rintro e w9 ⟨rfl, hb9⟩
          have e1 : rdBytes (crAll (keptK kn K) F7 (crT s dir apG)).2 (Sd.tget (crT s dir apG) zx) = (text ++ more).extract 0 (text.size + n) := by rw [t2]; exact t3
          have e2 : rdErr (Sd.tget (crT s dir apG) zx) = 0 := by rw [t2]; rfl
          have e1' : rdBytes (crAll (keptK kn K) F7 (crT s dir apG)).2 (Sd.tget (Sk.mk s.quota (crT s dir apG) (crT s dir apG) []).names zx) = (text ++ more).extract 0 (text.size + n) := e1
          have e2' : rdErr (Sd.tget (Sk.mk s.quota (crT s dir apG) (crT s dir apG) []).names zx) = 0 := e2
          rw [e1', e2']
          have HBl9 : Hid (Below B w w9) := (unhide HBl8).trans (hb9.mono hbw8)
          have hsz : ((text ++ more).extract 0 (text.size + n)).size = text.size + n := by rw [ByteArray.size_extract, ByteArray.size_append]; omega
          have hq1 : (((text ++ more).extract 0 (text.size + n)).toList == ((text ++ more).extract 0 ((text ++ more).extract 0 (text.size + n)).size).toList) = true := by rw [hsz]; exact ba_eq rfl
          obtain ⟨R, hR⟩ : ∃ R, (text ++ more).extract 0 (text.size + n) = R := ⟨_, rfl⟩
          rw [hR] at hq1 hsz ⊢
          have r1 : text.size ≤ R.size := by omega
          have r2 : R.size ≤ text.size + more.size := by omega
          have HB' : Hid (w.heap.size = B) := hB
          clear e1 e2 e1' e2' hb9 hd8 t1 t2 t3 hTl hR hsz
          go_wp2
          go_ret
          exact ⟨rfl, by have h := unhide HBl9; rw [unhide HB']; exact h⟩
end Go.Proofs.Yteflnddphpjahaa.Dk
