import Derived.Test.YteflnddphpjahaaDoorClCqS
/-
  The program's Compile.
-/
set_option linter.unusedVariables false
set_option linter.unusedSimpArgs false
set_option maxRecDepth 100000
namespace Go.Proofs.YteflnddphpjahaaDoor
open Go.RowKit

theorem ln_index28 (a0 a1 a2 a3 a4 a5 a6 a7 a8 a9 a10 a11 a12 a13 a14 a15 a16 a17 a18 a19 a20 a21 a22 a23 a24 a25 a26 a27 : Value) (W : World) : (i : Nat) → i < 7 → ∃ b0 b1 b2 b3, (Instr.index 117 (.agg #[a0, a1, a2, a3, a4, a5, a6, a7, a8, a9, a10, a11, a12, a13, a14, a15, a16, a17, a18, a19, a20, a21, a22, a23, a24, a25, a26, a27]) (.int .i64 i)).run Tryd.prog W = .ok (.agg #[b0, b1, b2, b3]) W ∧ #[a0, a1, a2, a3, a4, a5, a6, a7, a8, a9, a10, a11, a12, a13, a14, a15, a16, a17, a18, a19, a20, a21, a22, a23, a24, a25, a26, a27][i * 4]? = some b0 ∧ #[a0, a1, a2, a3, a4, a5, a6, a7, a8, a9, a10, a11, a12, a13, a14, a15, a16, a17, a18, a19, a20, a21, a22, a23, a24, a25, a26, a27][i * 4 + 1]? = some b1 ∧ #[a0, a1, a2, a3, a4, a5, a6, a7, a8, a9, a10, a11, a12, a13, a14, a15, a16, a17, a18, a19, a20, a21, a22, a23, a24, a25, a26, a27][i * 4 + 2]? = some b2 ∧ #[a0, a1, a2, a3, a4, a5, a6, a7, a8, a9, a10, a11, a12, a13, a14, a15, a16, a17, a18, a19, a20, a21, a22, a23, a24, a25, a26, a27][i * 4 + 3]? = some b3
  | 0, _ => ⟨_, _, _, _, by kernel_rfl, rfl, rfl, rfl, rfl⟩
  | 1, _ => ⟨_, _, _, _, by kernel_rfl, rfl, rfl, rfl, rfl⟩
  | 2, _ => ⟨_, _, _, _, by kernel_rfl, rfl, rfl, rfl, rfl⟩
  | 3, _ => ⟨_, _, _, _, by kernel_rfl, rfl, rfl, rfl, rfl⟩
  | 4, _ => ⟨_, _, _, _, by kernel_rfl, rfl, rfl, rfl, rfl⟩
  | 5, _ => ⟨_, _, _, _, by kernel_rfl, rfl, rfl, rfl, rfl⟩
  | 6, _ => ⟨_, _, _, _, by kernel_rfl, rfl, rfl, rfl, rfl⟩
  | n + 7, h => absurd h (by omega)
theorem ln_index {C : Array Value} (hC : C.size = 28) {i : Nat} (hi : i < 7) {c0 c1 c2 c3 : Value} (h0 : C[i * 4]? = some c0) (h1 : C[i * 4 + 1]? = some c1) (h2 : C[i * 4 + 2]? = some c2) (h3 : C[i * 4 + 3]? = some c3) (W : World) :
    (Instr.index 117 (.agg C) (.int .i64 i)).run Tryd.prog W = .ok (.agg #[c0, c1, c2, c3]) W := by
  obtain ⟨l⟩ := C
  match l, hC with
  | [a0, a1, a2, a3, a4, a5, a6, a7, a8, a9, a10, a11, a12, a13, a14, a15, a16, a17, a18, a19, a20, a21, a22, a23, a24, a25, a26, a27], _ =>
    obtain ⟨b0, b1, b2, b3, hr, e0, e1, e2, e3⟩ := ln_index28 a0 a1 a2 a3 a4 a5 a6 a7 a8 a9 a10 a11 a12 a13 a14 a15 a16 a17 a18 a19 a20 a21 a22 a23 a24 a25 a26 a27 W i hi
    rw [h0] at e0
    rw [h1] at e1
    rw [h2] at e2
    rw [h3] at e3
    injection e0 with e0
    injection e1 with e1
    injection e2 with e2
    injection e3 with e3
    rw [e0, e1, e2, e3]
    exact hr
/-- What Compile leaves. -/
def CPost (s : ByteArray) (w : World) (e : Ending) (w' : World) : Prop :=
  Below w.heap.size w w' ∧ ∃ pv, e = .returned (.tuple #[.pointer pv, .int .i64 (Sp.comp s).1, .int .i64 (Sp.comp s).2]) ∧
    ((Sp.comp s).1 = 0 → ∃ P C, pv = some ⟨P, 0, none⟩ ∧ w.heap.size ≤ P ∧ w'.heap[P]? = some (.cells C 119 (0, 0)) ∧ LnsIn (Sp.split s 10) w' P C 7 ∧ (Sp.split s 10).length = 7)
theorem cpost_err {s : ByteArray} {w w' : World} {a b : Int} {pv : Option Addr} (h : Sp.comp s = (a, b)) (ha : a ≠ 0) (hb : Below w.heap.size w w') : CPost s w (.returned (.tuple #[.pointer pv, .int .i64 a, .int .i64 b])) w' :=
  ⟨hb, pv, by rw [h], fun h0 => by rw [h] at h0; exact absurd h0 ha⟩
theorem comp_form {s : ByteArray} {i : Nat} (hs : s.size ≤ 2000) (h7 : i < 7) (hil : i ≤ (Sp.split s 10).length) (hok : ∀ j, j < i → Sp.lineOk j ((Sp.split s 10).getD j ⟨#[]⟩) = true) (hc : i = (Sp.split s 10).length ∨ (i < (Sp.split s 10).length ∧ Sp.lineOk i ((Sp.split s 10).getD i ⟨#[]⟩) = false)) : Sp.comp s = (3, (i : Int)) := by
  unfold Sp.comp
  rw [if_neg (by omega)]
  rcases hc with hc | ⟨hlt, hbad⟩
  · rw [Sp.first_none (fun j hj => by rw [hok j (by omega)]; rfl)]
    simp only
    rw [if_neg (by omega), if_pos (by omega), hc]
  · rw [Sp.first_some (k := i) (by omega) (fun j hj => by rw [hok j hj]; rfl) (by rw [hbad]; rfl)]
theorem comp_more {s : ByteArray} (hs : s.size ≤ 2000) (hl : 7 < (Sp.split s 10).length) (hok : ∀ j, j < 7 → Sp.lineOk j ((Sp.split s 10).getD j ⟨#[]⟩) = true) : Sp.comp s = (3, 7) := by
  unfold Sp.comp
  rw [if_neg (by omega), Sp.first_none (fun j hj => by rw [hok j (by omega)]; rfl)]
  simp only
  rw [if_pos (by omega)]
theorem ncode (s : ByteArray) (j : Nat) : decide (Sp.hgt (Sp.codeOf s j) (Sp.codeOf s j).length 0 (Sp.codeOf s j).length 0 ≠ some 1) = !Sp.keeps (wds ((Sp.split s 10).getD j ⟨#[]⟩)) := by
  show _ = !decide (Sp.hgt (Sp.codeOf s j) (Sp.codeOf s j).length 0 (Sp.codeOf s j).length 0 = some 1)
  rw [decide_not]
theorem comp_stack {s : ByteArray} {i : Nat} (hs : s.size ≤ 2000) (hl : (Sp.split s 10).length = 7) (hok : ∀ j, j < 7 → Sp.lineOk j ((Sp.split s 10).getD j ⟨#[]⟩) = true) (h5 : i < 5) (hk : ∀ j, j < i → j < 5 → Sp.keeps (wds ((Sp.split s 10).getD j ⟨#[]⟩)) = true) (hn : Sp.keeps (wds ((Sp.split s 10).getD i ⟨#[]⟩)) = false) : Sp.comp s = (7, (i : Int)) := by
  unfold Sp.comp
  rw [if_neg (by omega), Sp.first_none (fun j hj => by rw [hok j (by omega)]; rfl)]
  simp only
  rw [if_neg (by omega), if_neg (by omega), Sp.first_some (k := i) h5 (fun j hj => by rw [ncode, hk j hj (by omega)]; rfl) (by rw [ncode, hn]; rfl)]
theorem comp_ok {s : ByteArray} (hs : s.size ≤ 2000) (hl : (Sp.split s 10).length = 7) (hok : ∀ j, j < 7 → Sp.lineOk j ((Sp.split s 10).getD j ⟨#[]⟩) = true) (hk : ∀ j, j < 5 → Sp.keeps (wds ((Sp.split s 10).getD j ⟨#[]⟩)) = true) : Sp.comp s = (0, 0) := by
  unfold Sp.comp
  rw [if_neg (by omega), Sp.first_none (fun j hj => by rw [hok j (by omega)]; rfl)]
  simp only
  rw [if_neg (by omega), if_neg (by omega), Sp.first_none (fun j hj => by rw [ncode, hk j hj]; rfl)]
theorem sh_code : (i : Nat) → i < 7 → shL[i * 3 + 1]? = some (.bool (decide (i < 5)))
  | 0, _ => rfl
  | 1, _ => rfl
  | 2, _ => rfl
  | 3, _ => rfl
  | 4, _ => rfl
  | 5, _ => rfl
  | 6, _ => rfl
  | n + 7, h => absurd h (by omega)
/-- What a line's code is, for keepsToStack. -/
theorem code_in {s : ByteArray} {w : World} {P g : Nat} {C : Array Value} {u : TypeId} {p : Value} {i : Nat} (hs : s.size ≤ 2000) (h5 : i < 5) (hok : Sp.lineOk i ((Sp.split s 10).getD i ⟨#[]⟩) = true) (hc : CodeAt w g (wds ((Sp.split s 10).getD i ⟨#[]⟩))) (hl : i < (Sp.split s 10).length) (he : w.cell? ⟨4, 0, none⟩ = some (.iface u p)) : CodeIn w g (wds ((Sp.split s 10).getD i ⟨#[]⟩)) u p := by
  have hx : ((Sp.split s 10).getD i ⟨#[]⟩).size ≤ 2000 := by
    rw [List.getD_eq_getElem?_getD, List.getElem?_eq_getElem hl]
    exact Nat.le_trans (Sp.cut_size s 10 _ (List.getElem_mem hl)) hs
  generalize (Sp.split s 10).getD i ⟨#[]⟩ = x at *
  have hlen : (wds x).length ≤ 4000 := by
    unfold wds Sp.ws
    have := (Sp.split_len x 32).2
    simp only [List.length_map, List.length_tail]
    omega
  unfold Sp.lineOk at hok
  rw [Bool.and_eq_true, if_neg (by omega), Bool.and_eq_true] at hok
  have hf : Sp.fmd (i == 2) (wds x) 0 = true := hok.2.1
  have hf2 : Sp.fmd true (wds x) 0 = true := by
    cases hq : (i == 2) with
    | true => rw [hq] at hf; exact hf
    | false => rw [hq] at hf; exact Sp.fmd_weight _ _ hf
  have hpos : 0 < (wds x).length := by
    have h3 := hok.2.2
    unfold wds
    cases hq : (Sp.ws x).tail with
    | nil => rw [hq] at h3; simp at h3
    | cons a l => simp
  exact ⟨⟨hc.lt, hc.fn⟩, hlen, hpos, hf2, he, World.block_lt_of_cell? w _ he⟩
set_option maxHeartbeats 4000000 in
theorem pcomp_long (s : ByteArray) (w : World) (hs : 2000 < s.size) : Calls Tryd.prog 30 #[.string s] w (CPost s w) := by
  have hz : (2000 : Int) < (s.size : Int) := by omega
  have HE : Hid (Sp.comp s = (1, 0)) := by show _ = _; unfold Sp.comp; rw [if_pos hs]
  go_enter Tryd.func30, Tryd.ntmps30
  go_wp2
  exact bodyPost_ret (v := .tuple #[.pointer none, .int .i64 1, .int .i64 0]) (by simp [results, Tryd.results30, go_sem]) rfl (cpost_err (unhide HE) (by decide) (Below.refl _ _))
set_option maxHeartbeats 4000000 in
theorem pcomp_short (s : ByteArray) (w : World) (hs : s.size ≤ 2000) (hS : ShapesAt w) (hg : SplitOk w) (u : TypeId) (p : Value) (he : w.cell? ⟨4, 0, none⟩ = some (.iface u p)) :
    Calls Tryd.prog 30 #[.string s] w (CPost s w) := by
  have hz : ¬ (2000 : Int) < (s.size : Int) := by omega
  have hlen := Sp.split_len s 10
  have HEE := hide he
  have HSS := hide hS
  generalize hO : CPost s w = O
  replace hO := hide hO
  clear he hS
  go_enter Tryd.func30, Tryd.ntmps30
  go_wp2_with fail
  refine (psplit10_any s _ (by omega) hg).mono ?_
  rintro e w1 ⟨rfl, hw1⟩
  have hb1 : Below w.heap.size w w1 := by rw [hw1]; exact (Below.refl _ _).alloc (Nat.le_refl _) _
  have hsat : SAt w1 (some ⟨w.heap.size, 0, none⟩) (Sp.split s 10) := by rw [hw1]; exact sat_alloc w _
  clear hw1
  go_wp2_with fail
  refine (readLines_any' (Sp.split s 10) _ _ _ hsat (by omega) (fun x hx => Nat.le_trans (Sp.cut_size s 10 x hx) hs) ((unhide HSS).below hb1 (unhide HSS).lt) (split_ok_below hg hb1 hg.lt)).mono ?_
  rintro e w2 ⟨hb2, i, hi7, hil, hok, ⟨h7, hc, rfl⟩ | ⟨e7, hne, P, rfl⟩ | ⟨e7, hl7, P, C, hP, rfl, hpr, hln⟩⟩
  · have hfin : O (.returned (.tuple #[.pointer none, .int .i64 3, .int .i64 i])) w2 := by
      rw [← unhide hO]
      exact cpost_err (comp_form hs h7 hil hok hc) (by decide) (hb1.trans (hb2.mono hb1.size))
    clear hc hok hsat hb1 hb2
    go_wp2
    exact bodyPost_ret (v := .tuple #[.pointer none, .int .i64 3, .int .i64 i]) (by simp [results, Tryd.results30, go_sem]) rfl hfin
  · subst e7
    have hfin : O (.returned (.tuple #[.pointer none, .int .i64 3, .int .i64 7])) w2 := by
      rw [← unhide hO]
      exact cpost_err (comp_more hs (by omega) hok) (by decide) (hb1.trans (hb2.mono hb1.size))
    clear hne hok hsat hb1 hb2
    go_wp2
    exact bodyPost_ret (v := .tuple #[.pointer none, .int .i64 3, .int .i64 7]) (by simp [results, Tryd.results30, go_sem]) rfl hfin
  · subst e7
    have hbw := hb1.trans (hb2.mono hb1.size)
    have HOK := hide hok
    have HLN := hide hln
    have HPR := hide hpr
    have HL7 := hide hl7
    have hsz : (Tryd.prog.info? 117).map (·.size) = some C.size := by rw [hln.size]; kernel_rfl
    have HBW := hide hbw
    have hle1 := hb1.size
    clear hok hln hsat hb1 hb2 hl7 hil hlen hbw
    go_upto_region 6 with fail
    iterate 11 (first | go_values | go_skip | go_guarded | go_step | go_upon | (simp only [Int.not_lt, Int.not_le] at *; go_simp))
    refine wp_load_row 117 (.tmp 25) rfl P rfl 119 C (0, 0) _ hpr Tryd.underlying117 rfl hsz ?_
    clear hpr hsz
    go_wp2_with fail
    go_loopw [27] (fun v wr => ∃ i : Nat, i ≤ 7 ∧ v = .int .i64 i ∧ Below w2.heap.size w2 wr ∧ Hid (∀ j, j < i → j < 5 → Sp.keeps (wds ((Sp.split s 10).getD j ⟨#[]⟩)) = true)) (fun v _ => 7 - (intOf v).toNat)
    case atStart => exact ⟨0, by omega, rfl, Below.refl _ _, fun j hj => absurd hj (by omega)⟩
    case round =>
      obtain ⟨i, hi, rfl, hb, HK⟩ := hrel
      by_cases h7 : i < 7
      · have c1 : (i : Int) < 7 := by omega
        have g0 : (0 : Int) ≤ (i : Int) := Int.natCast_nonneg _
        obtain ⟨p4, n4, cap4, b4, z4, q4, F4, d0, d1, d2, d3⟩ := (unhide HLN).shape i h7
        have hbw2 := (unhide HBW).trans (hb.mono (unhide HBW).size)
        have hsh := (unhide HSS).below hbw2 (unhide HSS).lt
        have hsc := hsh (i * 3 + 1) _ (sh_code i h7)
        rw [Nat.zero_add] at hsc
        have hix := ln_index (unhide HLN).size h7 d0 d1 d2 d3
        cases q4 with
        | true =>
          unfold fval at d3 hix
          have hsc2 : (wr.alloc (.cells #[.slice p4 n4 cap4, .string b4, .int .i64 z4, .func (.func F4) #[] #[]] 116)).cell? ⟨0, i * 3 + 1, none⟩ = some (.bool (decide (i < 5))) := (((Below.refl wr.heap.size wr).alloc (Nat.le_refl _) _).cell (p := ⟨0, i * 3 + 1, none⟩) hsh.lt).trans hsc
          have HBA : Hid (Below w2.heap.size w2 (wr.alloc (.cells #[.slice p4 n4 cap4, .string b4, .int .i64 z4, .func (.func F4) #[] #[]] 116))) := hb.alloc hb.size _
          by_cases h5 : i < 5
          · rw [decide_eq_true h5] at hsc2
            obtain ⟨g4, cap5, e0, hPg, hca⟩ := (unhide HLN).code i h7 h5
            rw [d0] at e0
            injection e0 with e0
            injection e0 with e1 e2 e3
            subst e1
            obtain ⟨kp, HKP⟩ : ∃ kp, Hid (Sp.keeps (wds ((Sp.split s 10).getD i ⟨#[]⟩)) = kp) := ⟨_, rfl⟩
            have HKA : Hid (Calls Tryd.prog 48 #[.slice (some ⟨g4, 0, none⟩) n4 cap4] (wr.alloc (.cells #[.slice (some ⟨g4, 0, none⟩) n4 cap4, .string b4, .int .i64 z4, .func (.func F4) #[] #[]] 116)) fun e w' => e = .returned (.bool kp) ∧ Below (wr.alloc (.cells #[.slice (some ⟨g4, 0, none⟩) n4 cap4, .string b4, .int .i64 z4, .func (.func F4) #[] #[]] 116)).heap.size (wr.alloc (.cells #[.slice (some ⟨g4, 0, none⟩) n4 cap4, .string b4, .int .i64 z4, .func (.func F4) #[] #[]] 116)) w') := by
              have hbz := (unhide HBW).trans ((unhide HBA).mono (unhide HBW).size)
              rw [e2, ← unhide HKP]
              rw [e2] at hbz HBA
              refine keeps_any _ g4 cap4 u p _ (code_in (P := P) (C := C) hs h5 (unhide HOK i h7) (hca.below (unhide HBA)) (by rw [unhide HL7]; omega) ?_)
              exact (hbz.cell (p := ⟨4, 0, none⟩) (World.block_lt_of_cell? w _ (unhide HEE))).trans (unhide HEE)
            have HFE : Hid (kp = false → ∀ w', Below w2.heap.size w2 w' → O (.returned (.tuple #[.pointer none, .int .i64 7, .int .i64 i])) w') := by
              show kp = false → _
              intro hkp w' hb'
              rw [← unhide hO]
              have hbw := unhide HBW
              exact cpost_err (comp_stack hs (unhide HL7) (unhide HOK) h5 (unhide HK) ((unhide HKP).trans hkp)) (by decide) (hbw.trans (hb'.mono hbw.size))
            clear d0 d1 d2 d3 hsh hbw2 hsc hb e2 e3 hca hPg
            cases kp with
            | true =>
              go_wp2_with (first | (go_at_call 48; go_must (refine (unhide HKA).mono ?_; rintro e w5 ⟨rfl, hb5⟩; have HB5 := hide hb5; clear hb5)) | go_in)
              go_roundw
              case rel => exact ⟨i + 1, by omega, by go_num, (unhide HBA).trans ((unhide HB5).mono (unhide HBA).size), fun j hj hj5 => if h : j = i then h ▸ unhide HKP else unhide HK j (by omega) hj5⟩
              case measure => simp [intOf]; omega
            | false =>
              go_wp2_with (first | (go_at_call 48; go_must (refine (unhide HKA).mono ?_; rintro e w5 ⟨rfl, hb5⟩; have HB5 := hide hb5; clear hb5)) | go_in)
              exact bodyPost_ret (v := .tuple #[.pointer none, .int .i64 7, .int .i64 i]) (by simp [results, Tryd.results30, go_sem]) rfl (unhide HFE (by trivial) _ ((unhide HBA).trans ((unhide HB5).mono (unhide HBA).size)))
          · rw [decide_eq_false h5] at hsc2
            clear d0 d1 d2 d3 hsh hbw2 hsc hb
            go_wp2
            go_roundw
            case rel => exact ⟨i + 1, by omega, by go_num, unhide HBA, fun j hj hj5 => unhide HK j (by omega) hj5⟩
            case measure => simp [intOf]; omega
        | false =>
          unfold fval at d3 hix
          have hsc2 : (wr.alloc (.cells #[.slice p4 n4 cap4, .string b4, .int .i64 z4, .nilFunc] 116)).cell? ⟨0, i * 3 + 1, none⟩ = some (.bool (decide (i < 5))) := (((Below.refl wr.heap.size wr).alloc (Nat.le_refl _) _).cell (p := ⟨0, i * 3 + 1, none⟩) hsh.lt).trans hsc
          have HBA : Hid (Below w2.heap.size w2 (wr.alloc (.cells #[.slice p4 n4 cap4, .string b4, .int .i64 z4, .nilFunc] 116))) := hb.alloc hb.size _
          by_cases h5 : i < 5
          · rw [decide_eq_true h5] at hsc2
            obtain ⟨g4, cap5, e0, hPg, hca⟩ := (unhide HLN).code i h7 h5
            rw [d0] at e0
            injection e0 with e0
            injection e0 with e1 e2 e3
            subst e1
            obtain ⟨kp, HKP⟩ : ∃ kp, Hid (Sp.keeps (wds ((Sp.split s 10).getD i ⟨#[]⟩)) = kp) := ⟨_, rfl⟩
            have HKA : Hid (Calls Tryd.prog 48 #[.slice (some ⟨g4, 0, none⟩) n4 cap4] (wr.alloc (.cells #[.slice (some ⟨g4, 0, none⟩) n4 cap4, .string b4, .int .i64 z4, .nilFunc] 116)) fun e w' => e = .returned (.bool kp) ∧ Below (wr.alloc (.cells #[.slice (some ⟨g4, 0, none⟩) n4 cap4, .string b4, .int .i64 z4, .nilFunc] 116)).heap.size (wr.alloc (.cells #[.slice (some ⟨g4, 0, none⟩) n4 cap4, .string b4, .int .i64 z4, .nilFunc] 116)) w') := by
              have hbz := (unhide HBW).trans ((unhide HBA).mono (unhide HBW).size)
              rw [e2, ← unhide HKP]
              rw [e2] at hbz HBA
              refine keeps_any _ g4 cap4 u p _ (code_in (P := P) (C := C) hs h5 (unhide HOK i h7) (hca.below (unhide HBA)) (by rw [unhide HL7]; omega) ?_)
              exact (hbz.cell (p := ⟨4, 0, none⟩) (World.block_lt_of_cell? w _ (unhide HEE))).trans (unhide HEE)
            have HFE : Hid (kp = false → ∀ w', Below w2.heap.size w2 w' → O (.returned (.tuple #[.pointer none, .int .i64 7, .int .i64 i])) w') := by
              show kp = false → _
              intro hkp w' hb'
              rw [← unhide hO]
              have hbw := unhide HBW
              exact cpost_err (comp_stack hs (unhide HL7) (unhide HOK) h5 (unhide HK) ((unhide HKP).trans hkp)) (by decide) (hbw.trans (hb'.mono hbw.size))
            clear d0 d1 d2 d3 hsh hbw2 hsc hb e2 e3 hca hPg
            cases kp with
            | true =>
              go_wp2_with (first | (go_at_call 48; go_must (refine (unhide HKA).mono ?_; rintro e w5 ⟨rfl, hb5⟩; have HB5 := hide hb5; clear hb5)) | go_in)
              go_roundw
              case rel => exact ⟨i + 1, by omega, by go_num, (unhide HBA).trans ((unhide HB5).mono (unhide HBA).size), fun j hj hj5 => if h : j = i then h ▸ unhide HKP else unhide HK j (by omega) hj5⟩
              case measure => simp [intOf]; omega
            | false =>
              go_wp2_with (first | (go_at_call 48; go_must (refine (unhide HKA).mono ?_; rintro e w5 ⟨rfl, hb5⟩; have HB5 := hide hb5; clear hb5)) | go_in)
              exact bodyPost_ret (v := .tuple #[.pointer none, .int .i64 7, .int .i64 i]) (by simp [results, Tryd.results30, go_sem]) rfl (unhide HFE (by trivial) _ ((unhide HBA).trans ((unhide HB5).mono (unhide HBA).size)))
          · rw [decide_eq_false h5] at hsc2
            clear d0 d1 d2 d3 hsh hbw2 hsc hb
            go_wp2
            go_roundw
            case rel => exact ⟨i + 1, by omega, by go_num, unhide HBA, fun j hj hj5 => unhide HK j (by omega) hj5⟩
            case measure => simp [intOf]; omega
      · have e7 : i = 7 := by omega
        subst e7
        have hfin : O (.returned (.tuple #[.pointer (some ⟨P, 0, none⟩), .int .i64 0, .int .i64 0])) wr := by
          rw [← unhide hO]
          have hbw := unhide HBW
          have hcomp := comp_ok hs (unhide HL7) (unhide HOK) (fun j hj => unhide HK j (by omega) hj)
          have hPl := (Array.getElem?_eq_some_iff.1 (unhide HPR)).1
          refine ⟨hbw.trans (hb.mono hbw.size), some ⟨P, 0, none⟩, by rw [hcomp], fun _ => ⟨P, C, rfl, Nat.le_trans hle1 hP, (hb.block P hPl).trans (unhide HPR), (unhide HLN).below hb, unhide HL7⟩⟩
        clear hb
        go_wp2
        exact bodyPost_ret (v := .tuple #[.pointer (some ⟨P, 0, none⟩), .int .i64 0, .int .i64 0]) (by simp [results, Tryd.results30, go_sem]) rfl hfin
end Go.Proofs.YteflnddphpjahaaDoor
/-
  stride.Compile, and the law Compiled.
-/
set_option linter.unusedVariables false
set_option linter.unusedSimpArgs false
set_option maxRecDepth 100000
namespace Go.Proofs.YteflnddphpjahaaDoor
open Go.RowKit

/-- What Compile reads of the program's variables. -/
structure CompEnv (w : World) : Prop where
  shapes : ShapesAt w
  split : SplitOk w
  err : ∃ u p, w.cell? ⟨4, 0, none⟩ = some (.iface u p)
theorem CompEnv.below {w w' : World} (h : CompEnv w) (hb : Below w.heap.size w w') : CompEnv w' := by
  obtain ⟨u, p, he⟩ := h.err
  exact ⟨h.shapes.below hb h.shapes.lt, split_ok_below h.split hb h.split.lt, u, p, (hb.cell (p := ⟨4, 0, none⟩) (World.block_lt_of_cell? w _ he)).trans he⟩
theorem pcomp_any (s : ByteArray) (w : World) (h : CompEnv w) : Calls Tryd.prog 30 #[.string s] w (CPost s w) := by
  by_cases hs : 2000 < s.size
  · exact pcomp_long s w hs
  · obtain ⟨u, p, he⟩ := h.err
    exact pcomp_short s w (by omega) h.shapes h.split u p he
theorem comp_bd (s : ByteArray) : 0 ≤ (Sp.comp s).1 ∧ (Sp.comp s).1 ≤ 7 ∧ 0 ≤ (Sp.comp s).2 ∧ (Sp.comp s).2 ≤ 7 := by
  unfold Sp.comp
  split
  · exact ⟨by decide, by decide, by decide, by decide⟩
  · split
    · rename_i i hi
      have := List.mem_of_find?_eq_some hi
      rw [List.mem_range] at this
      refine ⟨?_, ?_, ?_, ?_⟩ <;> simp <;> omega
    · split
      · exact ⟨by decide, by decide, by decide, by decide⟩
      · split
        · refine ⟨?_, ?_, ?_, ?_⟩ <;> simp <;> omega
        · split
          · rename_i i hi
            have := List.mem_of_find?_eq_some hi
            rw [List.mem_range] at this
            refine ⟨?_, ?_, ?_, ?_⟩ <;> simp <;> omega
          · exact ⟨by decide, by decide, by decide, by decide⟩
set_option maxHeartbeats 1000000 in
theorem scomp_any (s : ByteArray) (w : World) (h : CompEnv w) : Calls Tryd.prog 21 #[.string s] w fun e w' => e = .returned (.tuple #[.int .i64 (Sp.comp s).1, .int .i64 (Sp.comp s).2]) ∧ Below w.heap.size w w' := by
  obtain ⟨b1, b2, b3, b4⟩ := comp_bd s
  have HC := hide (pcomp_any s w h)
  unfold CPost at HC
  generalize (Sp.comp s).1 = a at *
  generalize (Sp.comp s).2 = b at *
  go_enter Tryd.func21, Tryd.ntmps21
  go_wp2_with fail
  refine (unhide HC).mono ?_
  rintro e w1 ⟨hb1, pv, rfl, _⟩
  go_wp2
  exact bodyPost_ret (v := .tuple #[.int .i64 a, .int .i64 b]) (by simp [results, Tryd.results21, go_sem]) rfl ⟨rfl, hb1⟩
theorem rcomp_any (s : ByteArray) (w : World) : Calls Tryd.prog 22 #[.string s] w (CompPost s w) := by
  by_cases hs : 2000 < s.size
  · exact comp_long s w hs
  · exact comp_lines s w (by omega)
set_option maxHeartbeats 1000000 in
theorem lcomp_any (s : ByteArray) (w : World) (h : CompEnv w) : Calls Tryd.prog 8 #[.string s] w fun e w' => e = .returned (.bool true) ∧ Below w.heap.size w w' := by
  obtain ⟨b1, b2, b3, b4⟩ := comp_bd s
  have HC := hide (scomp_any s w h)
  have HR := hide (fun w => rcomp_any s w)
  unfold CompPost at HR
  generalize (Sp.comp s).1 = a at *
  generalize (Sp.comp s).2 = b at *
  go_enter Tryd.func8, Tryd.ntmps8
  go_wp2_with fail
  refine (unhide HC).mono ?_
  rintro e w1 ⟨rfl, hb1⟩
  go_wp2_with fail
  refine (unhide HR w1).mono ?_
  rintro e w2 ⟨hb2, p0, n0, k0, p1, n1, k1, p2, n2, k2, p3, n3, k3, p4, n4, k4, b5, b6, rfl⟩
  unfold progV
  have hbw := hb1.trans (hb2.mono hb1.size)
  clear hb1 hb2
  go_wp2
  go_ret
  exact ⟨rfl, hbw.alloc hbw.size _⟩
set_option maxHeartbeats 1000000 in
theorem compiled_any (s : ByteArray) (w : World) (h : CompEnv w) : Calls Tryd.prog 4 #[.string s] w fun e w' => e = .returned (.bool true) ∧ Below w.heap.size w w' := by
  go_enter Tryd.func4, Tryd.ntmps4
  go_wp2_with fail
  refine (lcomp_any s w h).mono ?_
  rintro e w1 ⟨rfl, hb1⟩
  go_wp2
  go_ret
  exact ⟨rfl, hb1⟩
end Go.Proofs.YteflnddphpjahaaDoor
