import Derived.Test.YteflnddphpjahaaClDkH
import Derived.Test.YteflnddphpjahaaClDkK
/-
  The law Lost.
-/
set_option linter.unusedVariables false
set_option linter.unusedSimpArgs false
set_option maxRecDepth 100000
namespace Go.Proofs.Yteflnddphpjahaa.Dk
open Go.RowKit

theorem sz0 : (⟨#[]⟩ : ByteArray).size = 0 := rfl
theorem app0 (t : ByteArray) : (⟨#[]⟩ : ByteArray) ++ t = t := by
  apply ByteArray.ext
  rw [ByteArray.data_append]
  simp
def nx : ByteArray := ⟨#[120]⟩
def ny : ByteArray := ⟨#[121]⟩
theorem nx_letter : Letter nx := ⟨rfl, by decide, by decide⟩
theorem ny_letter : Letter ny := ⟨rfl, by decide, by decide⟩
theorem lt_xy : Sd.lt nx ny = true := by
  unfold Sd.lt
  rw [ByteArray.toList_eq, ByteArray.toList_eq]
  decide
theorem ne_xy : ¬ nx = ny := Sd.lt_ne lt_xy
theorem srt1 (f : Nat) : Sd.tsorted [(nx, f)] := List.pairwise_singleton _ _
theorem srt2 (f g : Nat) : Sd.tsorted [(nx, f), (ny, g)] := List.pairwise_cons.2 ⟨fun q hq => by simp at hq; subst hq; exact lt_xy, List.pairwise_singleton _ _⟩
theorem set1 (f : Nat) : Sd.tset [] nx f = [(nx, f)] := rfl
theorem set2 (f g : Nat) : Sd.tset [(nx, f)] ny g = [(nx, f), (ny, g)] := by
  have h : Sd.thas [(nx, f)] ny = false := by simp [Sd.thas, ne_xy]
  unfold Sd.tset
  rw [h]
  simp [Sd.tins, Sd.tlow, lt_xy]
theorem get1 (f : Nat) : Sd.tget [(nx, f)] nx = some f := (Sd.tget_mem (srt1 f)).2 (by simp)
theorem get1n (f : Nat) : Sd.tget [(nx, f)] ny = none := Sd.tget_none (by simp [Sd.thas, ne_xy])
theorem get2x (f g : Nat) : Sd.tget [(nx, f), (ny, g)] nx = some f := (Sd.tget_mem (srt2 f g)).2 (by simp)
theorem get2y (f g : Nat) : Sd.tget [(nx, f), (ny, g)] ny = some g := (Sd.tget_mem (srt2 f g)).2 (by simp)

/-- Changes that give names alone. -/
def apS (T : Sd.Tb) (c : Ch) : Sd.Tb := match c.file with
  | some f => Sd.tset T c.name f
  | none => T
def okS (f g : Nat) (T : Sd.Tb) : Prop := T = [(nx, f)] ∨ T = [(nx, f), (ny, g)]
theorem makesS (D f g : Nat) : Makes D apS (okS f g) [⟨⟨#[]⟩, ny, some g⟩] := by
  refine ⟨fun T c hc hT => ?_, fun T hT => ?_, fun T c p hc hp => ?_, fun c hc W C v T h hne => ?_⟩
  · have e : c = ⟨⟨#[]⟩, ny, some g⟩ := List.mem_singleton.1 hc
    subst e
    rcases hT with rfl | rfl
    · exact Or.inr (set2 f g)
    · have hh : Sd.thas [(nx, f), (ny, g)] ny = true := Sd.thas_mem.2 ⟨g, by simp⟩
      have e2 : apS [(nx, f), (ny, g)] ⟨⟨#[]⟩, ny, some g⟩ = [(nx, f), (ny, g)] := by
        show Sd.tset [(nx, f), (ny, g)] ny g = _
        unfold Sd.tset
        rw [hh]
        simp [Sd.tlow, lt_xy, Sd.lt_irrefl]
      rw [e2]
      exact Or.inr rfl
  · rcases hT with rfl | rfl
    · exact ⟨srt1 f, by simp⟩
    · exact ⟨srt2 f g, by simp⟩
  all_goals
    have e : c = ⟨⟨#[]⟩, ny, some g⟩ := List.mem_singleton.1 hc
    subst e
  · rcases Sd.tset_mem hp with h | h
    · exact Or.inr (by rw [h])
    · exact Or.inl h
  · exact makeIn_set D C 59 v T ny g W h hne (letter_ne ny_letter)
theorem fcrash_any (B D : Nat) (s : Sk) (F : Nat → Fl) (vn vs vc : Value) (l : Int) (vb : Nat → Value) (dir : Int) (kp : Option Addr) (kn kc : Nat) (K : Nat → Int) (ap : Sd.Tb → Ch → Sd.Tb) (w : World) (h : DiskAt w B D s F vn vs vc l vb) (hl : s.chs.length ≤ 10000000) (hK : KeepAt w B kp kn K) (hsf : ∀ f, (F f).safe ≤ (F f).bytes.size) (ok : Sd.Tb → Prop) (hok : ok s.safe) (hM : Makes D ap ok s.chs) :
    Calls Try.prog 19 #[.pointer (some ⟨D, 0, none⟩), .int .i64 dir, .slice kp kn kc] w (CrashPost B D s F dir kn K ap w) := by
  have hc := dcrash_any B D s F vn vs vc l vb dir kp kn kc K ap w h hl hK hsf ok hok hM
  clear h hl hK hsf hok hM
  go_enter Try.func19, Try.ntmps19
  go_wp2_with fail
  refine hc.mono ?_
  rintro e w1 ⟨rfl, h⟩
  have H := hide h
  clear h hc
  go_wp2
  exact bodyPost_end (results_none rfl _ _ _) rfl ⟨rfl, unhide H⟩
theorem safe_upd {F : Nat → Fl} (h : ∀ f, (F f).safe ≤ (F f).bytes.size) (g : Nat) (x : Fl) (hx : x.safe ≤ x.bytes.size) : ∀ f, (upd F g x f).safe ≤ (upd F g x f).bytes.size := fun f => by
  by_cases e : f = g
  · rw [e, upd_same]; exact hx
  · rw [upd_other _ _ e]; exact h f
/-- The front of two texts. -/
theorem front (a b : ByteArray) (n : Nat) (hn : n ≤ b.size) : (a ++ b).extract 0 (a.size + n) = a ++ b.extract 0 n := by
  rw [ByteArray.extract_append]
  have e1 : a.extract 0 (a.size + n) = a := by
    apply Sp.ba_ext
    · rw [ByteArray.size_extract]; omega
    · intro i hi
      rw [ByteArray.size_extract] at hi
      have e : a.extract 0 (a.size + n) = a.extract 0 a.size := by
        apply Sp.ba_ext
        · rw [ByteArray.size_extract, ByteArray.size_extract]; omega
        · intro j hj
          rw [ByteArray.size_extract] at hj
          rw [← Sp.bt_of (a.extract 0 (a.size + n)) j (by rw [ByteArray.size_extract]; omega), ← Sp.bt_of (a.extract 0 a.size) j (by rw [ByteArray.size_extract]; omega), ByteArray.getElem_extract, ByteArray.getElem_extract]
      rw [e, Sp.bt_sub a 0 a.size i (Nat.le_refl _) (by omega), Nat.zero_add]
  rw [e1]
  congr 2 <;> omega

/-- What the crash of Lost leaves. -/
theorem lost_T (f g : Nat) (hfg : f ≠ g) (text more : ByteArray) (keep dir : Int) (F : Nat → Fl) (hf : F f = ⟨text ++ more, text.size⟩) (hg : F g = ⟨text, 0⟩) (q : Int) :
    ∃ T, crT ⟨q, [(nx, f), (ny, g)], [(nx, f)], [⟨⟨#[]⟩, ny, some g⟩]⟩ dir apS = T ∧ Sd.tget T nx = some f ∧ ((crAll (keptK 1 fun _ => keep) F T).2 f).bytes = text ++ more.extract 0 (clampN keep more.size) ∧
      rdBytes (crAll (keptK 1 fun _ => keep) F T).2 (Sd.tget T ny) = ⟨#[]⟩ ∧ rdErr (Sd.tget T ny) = (if dir < 1 then 11 else 0) ∧ T.length = (if dir < 1 then 1 else 2) := by
  have hz : (text ++ more).size - text.size = more.size := by rw [ByteArray.size_append]; omega
  have hx : (crashF (F f) keep).bytes = text ++ more.extract 0 (clampN keep more.size) := by
    rw [hf]
    unfold crashF
    show (text ++ more).extract 0 (text.size + clampN keep ((text ++ more).size - text.size)) = _
    rw [hz]
    exact front text more _ (clampN_le _ _)
  by_cases hd : dir < 1
  · have hc : clampN dir 1 = 0 := by unfold clampN; omega
    refine ⟨[(nx, f)], ?_, get1 f, ?_, ?_, ?_, ?_⟩
    · unfold crT
      show apAll apS [(nx, f)] ([⟨⟨#[]⟩, ny, some g⟩].take (clampN dir 1)) = _
      rw [hc]; rfl
    · show (upd F f (crashF (F f) keep) f).bytes = _
      rw [upd_same]; exact hx
    · rw [get1n]; rfl
    · rw [get1n, if_pos hd]; rfl
    · rw [if_pos hd]; rfl
  · have hc : clampN dir 1 = 1 := by unfold clampN; omega
    refine ⟨[(nx, f), (ny, g)], ?_, get2x f g, ?_, ?_, ?_, ?_⟩
    · unfold crT
      show apAll apS [(nx, f)] ([⟨⟨#[]⟩, ny, some g⟩].take (clampN dir 1)) = _
      rw [hc]
      show Sd.tset [(nx, f)] ny g = _
      exact set2 f g
    · show (upd (upd F f (crashF (F f) keep)) g _ f).bytes = _
      rw [upd_other _ _ hfg, upd_same]; exact hx
    · rw [get2y]
      show (upd (upd F f (crashF (F f) keep)) g (crashF (upd F f (crashF (F f) keep) g) 0) g).bytes = _
      rw [upd_same, upd_other _ _ (Ne.symm hfg), hg]
      have h0 : clampN 0 text.size = 0 := by unfold clampN; omega
      show text.extract 0 (0 + clampN 0 (text.size - 0)) = _
      rw [Nat.sub_zero, h0]
      apply ByteArray.ext
      exact Array.eq_empty_of_size_eq_zero (by show (text.extract 0 (0 + 0)).size = 0; rw [ByteArray.size_extract]; omega)
    · rw [get2y, if_neg hd]; rfl
    · rw [if_neg hd]; rfl

set_option maxHeartbeats 4000000 in
theorem lost_any (text more : ByteArray) (keep dir : Int) (w : World) (h1 : text.size ≤ 1048576) (h2 : more.size ≤ 1048576) (k1 : -9223372036854775808 ≤ keep) (k2 : keep ≤ 9223372036854775807) (d1 : -9223372036854775808 ≤ dir) (d2 : dir ≤ 9223372036854775807) :
    Calls Try.prog 7 #[.string text, .string more, .int .i64 keep, .int .i64 dir] w fun e w' => e = .returned (.bool true) ∧ Below w.heap.size w w' := by
  go_enter Try.func7, Try.ntmps7
  go_wp2_with fail
  refine (newDisk_any _ _).mono ?_
  rintro e w1 ⟨rfl, hb1, hd1⟩
  obtain ⟨D, hD⟩ : ∃ D, w.heap.size + 1 = D := ⟨_, rfl⟩
  obtain ⟨B, hB⟩ : ∃ B, w.heap.size = B := ⟨_, rfl⟩
  rw [hD] at hd1 ⊢
  rw [hB] at hd1
  have hsf1 : ∀ f : Nat, ((fun _ => ⟨⟨#[]⟩, 0⟩ : Nat → Fl) f).safe ≤ ((fun _ => ⟨⟨#[]⟩, 0⟩ : Nat → Fl) f).bytes.size := fun f => by simp
  generalize hF0 : (fun _ => ⟨⟨#[]⟩, 0⟩ : Nat → Fl) = F0 at hd1 hsf1
  clear hF0
  generalize (fun _ : Nat => Value.slice none 0 0) = vb0 at hd1
  have HB1 := hide hb1
  clear hb1
  go_wp2_with fail
  refine (fcreate_any B D _ F0 _ _ _ _ vb0 nx w1 hd1 (by simp) (by simp) nx_letter).mono ?_
  rintro e w2 ⟨rfl, hb2, f, vn2, vc2, hf, hd2⟩
  have hF2 : (upd F0 f ⟨⟨#[]⟩, 0⟩) f = ⟨⟨#[]⟩, 0⟩ := upd_same _ _ _
  have hsf2 := safe_upd hsf1 f ⟨⟨#[]⟩, 0⟩ (by simp)
  generalize upd F0 f ⟨⟨#[]⟩, 0⟩ = F2 at hd2 hF2 hsf2
  generalize upd vb0 f _ = vb2 at hd2
  have hd2 : DiskAt w2 B D ⟨1099511627776, [(nx, f)], [], [⟨⟨#[]⟩, nx, some f⟩]⟩ F2 vn2 (.slice none 0 0) vc2 0 vb2 := hd2
  have HB2 : Hid (Below B w w2) := (hB ▸ unhide HB1 : Below B w w1).trans hb2
  clear hd1 hb2 hf hsf1
  go_wp2_with fail
  refine (fsyncDir_any B D _ F2 _ _ _ _ vb2 w2 hd2 (by simp)).mono ?_
  rintro e w3 ⟨rfl, hb3, vs3, hd3⟩
  have hd3 : DiskAt w3 B D ⟨1099511627776, [(nx, f)], [(nx, f)], []⟩ F2 vn2 vs3 (.slice none 0 0) 0 vb2 := hd3
  have HB3 : Hid (Below B w w3) := (unhide HB2).trans hb3
  clear hd2 hb3
  go_wp2_with fail
  refine (fappend_any B D _ F2 _ _ _ _ vb2 nx text f w3 hd3 (by simp) (get1 f) (by intro p hp; simp at hp; subst hp; rw [hF2]; simp [sz0]) (by omega) (by simp [used, hF2, sz0]; omega)).mono ?_
  rintro e w4 ⟨rfl, hb4, v4, hd4⟩
  have hF4 : (upd F2 f ⟨(F2 f).bytes ++ text, (F2 f).safe⟩) f = ⟨text, 0⟩ := by rw [upd_same, hF2, app0]
  have hsf4 := safe_upd hsf2 f ⟨(F2 f).bytes ++ text, (F2 f).safe⟩ (by rw [hF2]; simp)
  generalize upd F2 f ⟨(F2 f).bytes ++ text, (F2 f).safe⟩ = F4 at hd4 hF4 hsf4
  generalize upd vb2 f _ = vb4 at hd4
  have HB4 : Hid (Below B w w4) := (unhide HB3).trans hb4
  clear hd3 hb4 hF2 hsf2
  go_wp2_with fail
  refine (fsync_any B D _ F4 _ _ _ _ vb4 nx f w4 hd4 (by simp) (get1 f)).mono ?_
  rintro e w5 ⟨rfl, hb5, v5, hd5⟩
  have hF5 : (upd F4 f ⟨(F4 f).bytes, (F4 f).bytes.size⟩) f = ⟨text, text.size⟩ := by rw [upd_same, hF4]
  have hsf5 := safe_upd hsf4 f ⟨(F4 f).bytes, (F4 f).bytes.size⟩ (Nat.le_refl _)
  generalize upd F4 f ⟨(F4 f).bytes, (F4 f).bytes.size⟩ = F5 at hd5 hF5 hsf5
  generalize upd vb4 f _ = vb5 at hd5
  have HB5 : Hid (Below B w w5) := (unhide HB4).trans hb5
  clear hd4 hb5 hF4 hsf4
  go_wp2_with fail
  refine (fappend_any B D _ F5 _ _ _ _ vb5 nx more f w5 hd5 (by simp) (get1 f) (by intro p hp; simp at hp; subst hp; rw [hF5]; simp; omega) (by omega) (by simp [used, hF5]; omega)).mono ?_
  rintro e w6 ⟨rfl, hb6, v6, hd6⟩
  have hF6 : (upd F5 f ⟨(F5 f).bytes ++ more, (F5 f).safe⟩) f = ⟨text ++ more, text.size⟩ := by rw [upd_same, hF5]
  have hsf6 := safe_upd hsf5 f ⟨(F5 f).bytes ++ more, (F5 f).safe⟩ (by rw [hF5]; simp)
  generalize upd F5 f ⟨(F5 f).bytes ++ more, (F5 f).safe⟩ = F6 at hd6 hF6 hsf6
  generalize upd vb5 f _ = vb6 at hd6
  have HB6 : Hid (Below B w w6) := (unhide HB5).trans hb6
  clear hd5 hb6 hF5 hsf5
  go_wp2_with fail
  refine (fcreate_any B D _ F6 _ _ _ _ vb6 ny w6 hd6 (by simp) (by simp) ny_letter).mono ?_
  rintro e w7 ⟨rfl, hb7, g, vn7, vc7, hg, hd7⟩
  have hfl : f < w6.heap.size := lt_of_block (hd6.files f (Or.inl ⟨nx, by simp⟩)).blk
  have hfg : f ≠ g := by omega
  have hF7g : (upd F6 g ⟨⟨#[]⟩, 0⟩) g = ⟨⟨#[]⟩, 0⟩ := upd_same _ _ _
  have hF7f : (upd F6 g ⟨⟨#[]⟩, 0⟩) f = ⟨text ++ more, text.size⟩ := by rw [upd_other _ _ hfg, hF6]
  have hsf7 := safe_upd hsf6 g ⟨⟨#[]⟩, 0⟩ (by simp)
  generalize upd F6 g ⟨⟨#[]⟩, 0⟩ = F7 at hd7 hF7g hF7f hsf7
  generalize upd vb6 g _ = vb7 at hd7
  have hd7 : DiskAt w7 B D ⟨1099511627776, [(nx, f), (ny, g)], [(nx, f)], [⟨⟨#[]⟩, ny, some g⟩]⟩ F7 vn7 vs3 vc7 0 vb7 := by
    have h := hd7
    simp only [set2, List.nil_append] at h
    exact h
  have HB7 : Hid (Below B w w7) := (unhide HB6).trans hb7
  clear hd6 hb7 hF6 hsf6 hg hfl
  go_wp2_with fail
  refine (fappend_any B D _ F7 _ _ _ _ vb7 ny text g w7 hd7 (by simp) (get2y f g) (by intro p hp; simp at hp; rcases hp with rfl | rfl <;> simp [hF7f, hF7g, sz0] <;> omega) (by omega) (by simp [used, hF7f, hF7g, sz0]; omega)).mono ?_
  rintro e w8 ⟨rfl, hb8, v8, hd8⟩
  have hF8g : (upd F7 g ⟨(F7 g).bytes ++ text, (F7 g).safe⟩) g = ⟨text, 0⟩ := by rw [upd_same, hF7g, app0]
  have hF8f : (upd F7 g ⟨(F7 g).bytes ++ text, (F7 g).safe⟩) f = ⟨text ++ more, text.size⟩ := by rw [upd_other _ _ hfg, hF7f]
  have hsf8 := safe_upd hsf7 g ⟨(F7 g).bytes ++ text, (F7 g).safe⟩ (by rw [hF7g]; simp)
  generalize upd F7 g ⟨(F7 g).bytes ++ text, (F7 g).safe⟩ = F8 at hd8 hF8g hF8f hsf8
  generalize upd vb7 g _ = vb8 at hd8
  have HB8 : Hid (Below B w w8) := (unhide HB7).trans hb8
  clear hd7 hb8 hF7f hF7g hsf7
  go_wp2_with fail
  have hd8' := hd8.below ((Below.refl _ w8).alloc (Nat.le_refl _) (.cells #[.int .i64 keep] 3))
  have hK : KeepAt (w8.alloc (.cells #[.int .i64 keep] 3)) B (some ⟨w8.heap.size, 0, none⟩) 1 (fun _ => keep) := by
    refine ⟨fun j hj => ?_, by omega⟩
    have e : j = 0 := by omega
    subst e
    exact ⟨w8.heap.size, 0, rfl, by rw [cell_of_row _ _ 0 _ _ _ (heap_alloc_new w8 _)]; rfl, Or.inr ⟨_, _, heap_alloc_new w8 _⟩⟩
  refine (fcrash_any B D _ F8 _ _ _ _ vb8 dir _ 1 1 (fun _ => keep) apS _ hd8' (by simp) hK hsf8 (okS f g) (Or.inl rfl) (makesS D f g)).mono ?_
  rintro e w9 ⟨rfl, hb9, v9, vs9, vb9, hd9⟩
  obtain ⟨T, hTe, hgx, hbx, hry, hrye, hlen⟩ := lost_T f g hfg text more keep dir F8 hF8f hF8g 1099511627776
  have hd9 : DiskAt w9 B D ⟨1099511627776, T, T, []⟩ (crAll (keptK 1 fun _ => keep) F8 T).2 v9 vs9 (.slice none 0 0) (-1) vb9 := by
    rw [← hTe]; exact hd9
  have hBw8 : B ≤ w8.heap.size := by have := (unhide HB8).size; omega
  have HB9 : Hid (Below B w w9) := ((unhide HB8).alloc hBw8 _).trans hb9
  have HBL : Hid (B ≤ w9.heap.size) := by have := (unhide HB9).size; show _ ≤ _; omega
  have hTl : T.length ≤ 100000 := by rw [hlen]; split <;> omega
  have hrx : rdBytes (crAll (keptK 1 fun _ => keep) F8 T).2 (some f) = text ++ more.extract 0 (clampN keep more.size) := hbx
  have hrxe : rdErr (some f) = 0 := rfl
  clear hd8 hd8' hK hb9 hbx hF8f hF8g hsf8 hTe
  have hzm : (more.extract 0 (clampN keep more.size)).size ≤ 1048576 := by rw [ByteArray.size_extract]; omega
  have t0 : ((⟨#[]⟩ : ByteArray).toList == []) = true := by rw [ByteArray.toList_eq]; rfl
  by_cases hdir : dir < 1
  · rw [if_pos hdir] at hrye hlen
    by_cases hk0 : keep < 0
    · have hcl : clampN keep more.size = 0 := by unfold clampN; omega
      rw [hcl] at hrx hzm
      have t1 : ((text ++ more.extract 0 (0)).toList == (text ++ more.extract 0 (0)).toList) = true := ba_eq rfl
      go_wp2_with fail
      refine (fread_any B D _ _ _ _ _ _ vb9 nx w9 hd9 hTl).mono ?_
      rintro e w10 ⟨rfl, hb10⟩
      rw [hgx, hrx, hrxe]
      have hd10 := hd9.below hb10
      have HB10 : Hid (Below B w w10) := (unhide HB9).trans (hb10.mono (unhide HBL))
      clear hb10
      go_wp2_with fail
      refine (fread_any B D _ _ _ _ _ _ vb9 ny w10 hd10 hTl).mono ?_
      rintro e w11 ⟨rfl, hb11⟩
      rw [hry, hrye]
      have hd11 := hd10.below hb11
      have HB11 : Hid (Below B w w11) := (unhide HB10).trans (hb11.mono (by have := (unhide HB10).size; omega))
      clear hb11
      go_wp2_with fail
      refine (flist_any B D _ _ _ _ _ _ vb9 w11 hd11 hTl).mono ?_
      rintro e w12 ⟨⟨pl, cl, rfl⟩, hb12⟩
      have HB12 : Hid (Below B w w12) := (unhide HB11).trans (hb12.mono (by have := (unhide HB11).size; omega))
      have hL : (Sk.mk 1099511627776 T T []).names.length = 1 := hlen
      rw [hL]
      clear hb12 hd9 hd10 hd11 hL
      go_wp2
      go_ret
      exact ⟨rfl, by have h := unhide HB12; rw [hB]; exact h⟩
    · by_cases hk1 : (more.size : Int) < keep
      · have hcl : clampN keep more.size = more.size := by unfold clampN; omega
        rw [hcl] at hrx hzm
        have t1 : ((text ++ more.extract 0 (more.size)).toList == (text ++ more.extract 0 (more.size)).toList) = true := ba_eq rfl
        go_wp2_with fail
        refine (fread_any B D _ _ _ _ _ _ vb9 nx w9 hd9 hTl).mono ?_
        rintro e w10 ⟨rfl, hb10⟩
        rw [hgx, hrx, hrxe]
        have hd10 := hd9.below hb10
        have HB10 : Hid (Below B w w10) := (unhide HB9).trans (hb10.mono (unhide HBL))
        clear hb10
        go_wp2_with fail
        refine (fread_any B D _ _ _ _ _ _ vb9 ny w10 hd10 hTl).mono ?_
        rintro e w11 ⟨rfl, hb11⟩
        rw [hry, hrye]
        have hd11 := hd10.below hb11
        have HB11 : Hid (Below B w w11) := (unhide HB10).trans (hb11.mono (by have := (unhide HB10).size; omega))
        clear hb11
        go_wp2_with fail
        refine (flist_any B D _ _ _ _ _ _ vb9 w11 hd11 hTl).mono ?_
        rintro e w12 ⟨⟨pl, cl, rfl⟩, hb12⟩
        have HB12 : Hid (Below B w w12) := (unhide HB11).trans (hb12.mono (by have := (unhide HB11).size; omega))
        have hL : (Sk.mk 1099511627776 T T []).names.length = 1 := hlen
        rw [hL]
        clear hb12 hd9 hd10 hd11 hL
        go_wp2
        go_ret
        exact ⟨rfl, by have h := unhide HB12; rw [hB]; exact h⟩
      · obtain ⟨kk, rfl⟩ : ∃ kk : Nat, keep = (kk : Int) := ⟨keep.toNat, by omega⟩
        have hcl : clampN (kk : Int) more.size = kk := by unfold clampN; omega
        rw [hcl] at hrx hzm
        have t1 : ((text ++ more.extract 0 (kk)).toList == (text ++ more.extract 0 (kk)).toList) = true := ba_eq rfl
        go_wp2_with fail
        refine (fread_any B D _ _ _ _ _ _ vb9 nx w9 hd9 hTl).mono ?_
        rintro e w10 ⟨rfl, hb10⟩
        rw [hgx, hrx, hrxe]
        have hd10 := hd9.below hb10
        have HB10 : Hid (Below B w w10) := (unhide HB9).trans (hb10.mono (unhide HBL))
        clear hb10
        go_wp2_with fail
        refine (fread_any B D _ _ _ _ _ _ vb9 ny w10 hd10 hTl).mono ?_
        rintro e w11 ⟨rfl, hb11⟩
        rw [hry, hrye]
        have hd11 := hd10.below hb11
        have HB11 : Hid (Below B w w11) := (unhide HB10).trans (hb11.mono (by have := (unhide HB10).size; omega))
        clear hb11
        go_wp2_with fail
        refine (flist_any B D _ _ _ _ _ _ vb9 w11 hd11 hTl).mono ?_
        rintro e w12 ⟨⟨pl, cl, rfl⟩, hb12⟩
        have HB12 : Hid (Below B w w12) := (unhide HB11).trans (hb12.mono (by have := (unhide HB11).size; omega))
        have hL : (Sk.mk 1099511627776 T T []).names.length = 1 := hlen
        rw [hL]
        clear hb12 hd9 hd10 hd11 hL
        go_wp2
        go_ret
        exact ⟨rfl, by have h := unhide HB12; rw [hB]; exact h⟩
  · rw [if_neg hdir] at hrye hlen
    by_cases hk0 : keep < 0
    · have hcl : clampN keep more.size = 0 := by unfold clampN; omega
      rw [hcl] at hrx hzm
      have t1 : ((text ++ more.extract 0 (0)).toList == (text ++ more.extract 0 (0)).toList) = true := ba_eq rfl
      go_wp2_with fail
      refine (fread_any B D _ _ _ _ _ _ vb9 nx w9 hd9 hTl).mono ?_
      rintro e w10 ⟨rfl, hb10⟩
      rw [hgx, hrx, hrxe]
      have hd10 := hd9.below hb10
      have HB10 : Hid (Below B w w10) := (unhide HB9).trans (hb10.mono (unhide HBL))
      clear hb10
      go_wp2_with fail
      refine (fread_any B D _ _ _ _ _ _ vb9 ny w10 hd10 hTl).mono ?_
      rintro e w11 ⟨rfl, hb11⟩
      rw [hry, hrye]
      have hd11 := hd10.below hb11
      have HB11 : Hid (Below B w w11) := (unhide HB10).trans (hb11.mono (by have := (unhide HB10).size; omega))
      clear hb11
      go_wp2_with fail
      refine (flist_any B D _ _ _ _ _ _ vb9 w11 hd11 hTl).mono ?_
      rintro e w12 ⟨⟨pl, cl, rfl⟩, hb12⟩
      have HB12 : Hid (Below B w w12) := (unhide HB11).trans (hb12.mono (by have := (unhide HB11).size; omega))
      have hL : (Sk.mk 1099511627776 T T []).names.length = 2 := hlen
      rw [hL]
      clear hb12 hd9 hd10 hd11 hL
      go_wp2
      go_ret
      exact ⟨rfl, by have h := unhide HB12; rw [hB]; exact h⟩
    · by_cases hk1 : (more.size : Int) < keep
      · have hcl : clampN keep more.size = more.size := by unfold clampN; omega
        rw [hcl] at hrx hzm
        have t1 : ((text ++ more.extract 0 (more.size)).toList == (text ++ more.extract 0 (more.size)).toList) = true := ba_eq rfl
        go_wp2_with fail
        refine (fread_any B D _ _ _ _ _ _ vb9 nx w9 hd9 hTl).mono ?_
        rintro e w10 ⟨rfl, hb10⟩
        rw [hgx, hrx, hrxe]
        have hd10 := hd9.below hb10
        have HB10 : Hid (Below B w w10) := (unhide HB9).trans (hb10.mono (unhide HBL))
        clear hb10
        go_wp2_with fail
        refine (fread_any B D _ _ _ _ _ _ vb9 ny w10 hd10 hTl).mono ?_
        rintro e w11 ⟨rfl, hb11⟩
        rw [hry, hrye]
        have hd11 := hd10.below hb11
        have HB11 : Hid (Below B w w11) := (unhide HB10).trans (hb11.mono (by have := (unhide HB10).size; omega))
        clear hb11
        go_wp2_with fail
        refine (flist_any B D _ _ _ _ _ _ vb9 w11 hd11 hTl).mono ?_
        rintro e w12 ⟨⟨pl, cl, rfl⟩, hb12⟩
        have HB12 : Hid (Below B w w12) := (unhide HB11).trans (hb12.mono (by have := (unhide HB11).size; omega))
        have hL : (Sk.mk 1099511627776 T T []).names.length = 2 := hlen
        rw [hL]
        clear hb12 hd9 hd10 hd11 hL
        go_wp2
        go_ret
        exact ⟨rfl, by have h := unhide HB12; rw [hB]; exact h⟩
      · obtain ⟨kk, rfl⟩ : ∃ kk : Nat, keep = (kk : Int) := ⟨keep.toNat, by omega⟩
        have hcl : clampN (kk : Int) more.size = kk := by unfold clampN; omega
        rw [hcl] at hrx hzm
        have t1 : ((text ++ more.extract 0 (kk)).toList == (text ++ more.extract 0 (kk)).toList) = true := ba_eq rfl
        go_wp2_with fail
        refine (fread_any B D _ _ _ _ _ _ vb9 nx w9 hd9 hTl).mono ?_
        rintro e w10 ⟨rfl, hb10⟩
        rw [hgx, hrx, hrxe]
        have hd10 := hd9.below hb10
        have HB10 : Hid (Below B w w10) := (unhide HB9).trans (hb10.mono (unhide HBL))
        clear hb10
        go_wp2_with fail
        refine (fread_any B D _ _ _ _ _ _ vb9 ny w10 hd10 hTl).mono ?_
        rintro e w11 ⟨rfl, hb11⟩
        rw [hry, hrye]
        have hd11 := hd10.below hb11
        have HB11 : Hid (Below B w w11) := (unhide HB10).trans (hb11.mono (by have := (unhide HB10).size; omega))
        clear hb11
        go_wp2_with fail
        refine (flist_any B D _ _ _ _ _ _ vb9 w11 hd11 hTl).mono ?_
        rintro e w12 ⟨⟨pl, cl, rfl⟩, hb12⟩
        have HB12 : Hid (Below B w w12) := (unhide HB11).trans (hb12.mono (by have := (unhide HB11).size; omega))
        have hL : (Sk.mk 1099511627776 T T []).names.length = 2 := hlen
        rw [hL]
        clear hb12 hd9 hd10 hd11 hL
        go_wp2
        go_ret
        exact ⟨rfl, by have h := unhide HB12; rw [hB]; exact h⟩
end Go.Proofs.Yteflnddphpjahaa.Dk
