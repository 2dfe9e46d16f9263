import Derived.Test.YteflnddphpjahaaDoorClCqK
/-
  A dry machine goes through its code.
-/
set_option linter.unusedVariables false
set_option linter.unusedSimpArgs false
set_option maxRecDepth 100000
namespace Go.Proofs.YteflnddphpjahaaDoor
open Go.RowKit

theorem Dry.att {w : World} {M at' fuel h : Nat} {code loops : Value} (hd : Dry w M code at' fuel h loops) (a : Nat) : Dry (w.setCell ⟨M, 1, none⟩ (.int .i64 a)) M code a fuel h loops := by
  obtain ⟨c0, c1, c2, sg, st, hh, ll, dr, fz⟩ := hd
  refine ⟨?_, ?_, ?_, fun j hj => ?_, fun j hj => ?_, ?_, ?_, ?_, fun j => ?_⟩
  · rw [cell_set_other (by omega)]; exact c0
  · exact World.cell?_setCell_same _ _ _ c1
  · rw [cell_set_other (by omega)]; exact c2
  · rw [cell_set_other (by omega)]; exact sg j hj
  · rw [cell_set_other (by omega)]; exact st j hj
  · rw [cell_set_other (by omega)]; exact hh
  · rw [cell_set_other (by omega)]; exact ll
  · rw [cell_set_other (by omega)]; exact dr
  · rw [World.frozen?_setCell]; exact fz j
theorem Dry.fue {w : World} {M at' fuel h : Nat} {code loops : Value} (hd : Dry w M code at' fuel h loops) (a : Nat) : Dry (w.setCell ⟨M, 2, none⟩ (.int .i64 a)) M code at' a h loops := by
  obtain ⟨c0, c1, c2, sg, st, hh, ll, dr, fz⟩ := hd
  refine ⟨?_, ?_, ?_, fun j hj => ?_, fun j hj => ?_, ?_, ?_, ?_, fun j => ?_⟩
  · rw [cell_set_other (by omega)]; exact c0
  · rw [cell_set_other (by omega)]; exact c1
  · exact World.cell?_setCell_same _ _ _ c2
  · rw [cell_set_other (by omega)]; exact sg j hj
  · rw [cell_set_other (by omega)]; exact st j hj
  · rw [cell_set_other (by omega)]; exact hh
  · rw [cell_set_other (by omega)]; exact ll
  · rw [cell_set_other (by omega)]; exact dr
  · rw [World.frozen?_setCell]; exact fz j
theorem DryS.att {w : World} {M at' fuel h : Nat} {code : Value} {ls : List Nat} (hd : DryS w M code at' fuel h ls) (a : Nat) : DryS (w.setCell ⟨M, 1, none⟩ (.int .i64 a)) M code a fuel h ls := by
  obtain ⟨x, h1, h2⟩ := hd
  exact ⟨x, h1.att a, ((Only.refl M w).set _ _).own h2⟩
theorem DryS.fue {w : World} {M at' fuel h : Nat} {code : Value} {ls : List Nat} (hd : DryS w M code at' fuel h ls) (a : Nat) : DryS (w.setCell ⟨M, 2, none⟩ (.int .i64 a)) M code at' a h ls := by
  obtain ⟨x, h1, h2⟩ := hd
  exact ⟨x, h1.fue a, ((Only.refl M w).set _ _).own h2⟩
theorem DryS.drewN {w : World} {M at' fuel h : Nat} {code : Value} {ls : List Nat} (hd : DryS w M code at' fuel h ls) (k : Nat) : DryS (w.drewN k) M code at' fuel h ls := by
  obtain ⟨x, h1, h2⟩ := hd
  have hbk := below_drewN w k
  exact ⟨x, h1.far (fun j => hbk.cell (p := ⟨M, j, none⟩) h1.lt) (fun j => hbk.frozen (p := ⟨M, j, none⟩) h1.lt), own_below h2 hbk⟩
theorem DryS.drew {w : World} {M at' fuel h : Nat} {code : Value} {ls : List Nat} (hd : DryS w M code at' fuel h ls) : DryS w.drew M code at' fuel h ls := by
  obtain ⟨x, h1, h2⟩ := hd
  exact ⟨x, h1.drew, h2.drew⟩
/-- The blocks below M are as they were. -/
abbrev KeptTo (M : Nat) (w w' : World) : Prop := Below M w w'
theorem KeptTo.set {M : Nat} {w w' : World} (h : KeptTo M w w') (j : Nat) (v : Value) : KeptTo M w (w'.setCell ⟨M, j, none⟩ v) := Below.setCell h (p := ⟨M, j, none⟩) (Nat.le_refl _) v
theorem kept_cell {M : Nat} {w w' : World} (h : KeptTo M w w') {b j : Nat} (hb : b < M) : w'.cell? ⟨b, j, none⟩ = w.cell? ⟨b, j, none⟩ := Below.cell h (p := ⟨b, j, none⟩) hb
/-- The function value of a word. -/
def Fn (w : World) (M : Nat) (x : List UInt8) (fv : Value) : Prop :=
  (∃ B n, B < M ∧ fv = .func (.func 136) #[] #[.pointer (some ⟨B, 0, none⟩)] ∧ NumAt w B n ∧ Sp.number x = some n) ∨ (∃ k, k < 25 ∧ x = Sp.nms[k]! ∧ fv = wordFn k)
def CodeRow (w : World) (M g : Nat) (L : List (List UInt8)) : Prop := g < M ∧ ∀ i (hi : i < L.length), ∃ fv, w.cell? ⟨g, i * 2, none⟩ = some fv ∧ Fn w M L[i] fv
def RPost (o : Option (Nat × List Nat)) (M : Nat) (code : Value) (u : TypeId) (p : Value) (w : World) (e : Ending) (w' : World) : Prop :=
  KeptTo M w w' ∧ match o with
    | some (h, ls) => e = .returned (.tuple #[]) ∧ ∃ a f, DryS w' M code a f h ls
    | none => e = .panicked [{ v := .iface u p, recovered := false }]
def atM (M : Nat) (w : World) : Nat := match w.cell? ⟨M, 1, none⟩ with
  | some v => (intOf v).toNat
  | none => 0
theorem atM_of {w : World} {M : Nat} {n : Int} (h : w.cell? ⟨M, 1, none⟩ = some (.int .i64 n)) : atM M w = n.toNat := by
  unfold atM; rw [h]; rfl
theorem dst_bd {x : List UInt8} {h h' : Nat} {ls ls' : List Nat} (hh : h ≤ 16) (e : Sp.dst x h ls = some (h', ls')) : h' ≤ 16 := by
  unfold Sp.dst at e
  split at e
  · split at e
    · cases e
    · injection e with e; injection e with e1 e2; omega
  · split at e
    · split at e
      · split at e
        · injection e with e; injection e with e1 e2; omega
        · cases e
      · cases e
    · split at e
      · cases e
      · split at e
        · injection e with e; injection e with e1 e2; omega
        · cases e
theorem dst_len {x : List UInt8} {h h' : Nat} {ls ls' : List Nat} (hx : x = [93] → ls ≠ []) (e : Sp.dst x h ls = some (h', ls')) : (ls'.length : Int) = ls.length + Sp.ds x := by
  unfold Sp.dst at e
  split at e
  · rename_i c
    subst c
    split at e
    · cases e
    · injection e with e; injection e with e1 e2; subst e2; simp [Sp.ds]
  · split at e
    · rename_i c1 c2
      subst c2
      have hne := hx rfl
      have hl : 0 < ls.length := List.length_pos_iff.2 hne
      split at e
      · split at e
        · injection e with e; injection e with e1 e2; subst e2; simp [Sp.ds]; omega
        · cases e
      · cases e
    · rename_i c1 c2
      rw [Sp.ds_none c1 c2]
      split at e
      · cases e
      · split at e
        · injection e with e; injection e with e1 e2; subst e2; omega
        · cases e
/-- A way that has ended, for a walk that wants one goal to be left. -/
theorem dead_end {G : Prop} (P : Program) (w : World) (h : G) : wpAny P .text #[] (fun _ _ _ => True) 0 #[] { tmps := #[], defers := [] } w → G := fun _ => h
theorem callFunc_enter {P : Program} {f : FuncId} {fn : Func} (hf : P.funcs[f]? = some fn) (hn : (fn.name == "runtime.NumGoroutine") = false) (hb : fn.body.isNone = false) (args : Array Value) (w : World) : (callFunc f args).run P w = .ok (.enter f args) w := by
  unfold callFunc
  have hn' : ¬ fn.name = "runtime.NumGoroutine" := by simpa using hn
  have hb' : ¬ fn.body = none := by intro e; rw [e] at hb; cases hb
  simp [go_sem, hf, hn', hb', hb]
theorem words_enter : (k : Nat) → k < 25 → ∀ (args : Array Value) (w : World), (callFunc (wfn[k]!) args).run Tryd.prog w = .ok (.enter (wfn[k]!) args) w
  | 0, _ => callFunc_enter Tryd.func81 (by kernel_rfl) (by kernel_rfl)
  | 1, _ => callFunc_enter Tryd.func83 (by kernel_rfl) (by kernel_rfl)
  | 2, _ => callFunc_enter Tryd.func84 (by kernel_rfl) (by kernel_rfl)
  | 3, _ => callFunc_enter Tryd.func85 (by kernel_rfl) (by kernel_rfl)
  | 4, _ => callFunc_enter Tryd.func86 (by kernel_rfl) (by kernel_rfl)
  | 5, _ => callFunc_enter Tryd.func87 (by kernel_rfl) (by kernel_rfl)
  | 6, _ => callFunc_enter Tryd.func88 (by kernel_rfl) (by kernel_rfl)
  | 7, _ => callFunc_enter Tryd.func89 (by kernel_rfl) (by kernel_rfl)
  | 8, _ => callFunc_enter Tryd.func90 (by kernel_rfl) (by kernel_rfl)
  | 9, _ => callFunc_enter Tryd.func91 (by kernel_rfl) (by kernel_rfl)
  | 10, _ => callFunc_enter Tryd.func93 (by kernel_rfl) (by kernel_rfl)
  | 11, _ => callFunc_enter Tryd.func94 (by kernel_rfl) (by kernel_rfl)
  | 12, _ => callFunc_enter Tryd.func95 (by kernel_rfl) (by kernel_rfl)
  | 13, _ => callFunc_enter Tryd.func97 (by kernel_rfl) (by kernel_rfl)
  | 14, _ => callFunc_enter Tryd.func98 (by kernel_rfl) (by kernel_rfl)
  | 15, _ => callFunc_enter Tryd.func100 (by kernel_rfl) (by kernel_rfl)
  | 16, _ => callFunc_enter Tryd.func101 (by kernel_rfl) (by kernel_rfl)
  | 17, _ => callFunc_enter Tryd.func102 (by kernel_rfl) (by kernel_rfl)
  | 18, _ => callFunc_enter Tryd.func103 (by kernel_rfl) (by kernel_rfl)
  | 19, _ => callFunc_enter Tryd.func105 (by kernel_rfl) (by kernel_rfl)
  | 20, _ => callFunc_enter Tryd.func106 (by kernel_rfl) (by kernel_rfl)
  | 21, _ => callFunc_enter Tryd.func107 (by kernel_rfl) (by kernel_rfl)
  | 22, _ => callFunc_enter Tryd.func108 (by kernel_rfl) (by kernel_rfl)
  | 23, _ => callFunc_enter Tryd.func110 (by kernel_rfl) (by kernel_rfl)
  | 24, _ => callFunc_enter Tryd.func112 (by kernel_rfl) (by kernel_rfl)
  | n + 25, h => absurd h (by omega)
theorem Fn.enter {w : World} {M : Nat} {x : List UInt8} {F : Nat} {caps : Array Value} (h : Fn w M x (.func (.func F) #[] caps)) (args : Array Value) (W : World) : (callFunc F args).run Tryd.prog W = .ok (.enter F args) W := by
  rcases h with ⟨B, n, _, e, _⟩ | ⟨k, hk, _, e⟩
  · injection e with e1 e2 e3
    injection e1 with e1
    subst e1
    exact callFunc_enter Tryd.func136 (by kernel_rfl) (by kernel_rfl) args W
  · unfold wordFn at e
    injection e with e1 e2 e3
    injection e1 with e1
    subst e1
    exact words_enter k hk args W
/-- A word's call. -/
theorem Fn.calls {w : World} {M : Nat} {x : List UInt8} {F : Nat} {caps : Array Value} (h : Fn w M x (.func (.func F) #[] caps)) {at' fuel hh : Nat} {code : Value} {ls : List Nat} {u : TypeId} {p : Value} {W : World} (hk : KeptTo M w W) (hd : DryS W M code at' fuel hh ls) (hv : DryEnv M hh u p W) (hl : ls.length ≤ 10000) (hx : x = [93] → ls ≠ []) :
    Calls Tryd.prog F (#[.pointer (some ⟨M, 0, none⟩)] ++ caps) W (WPost (Sp.dst x hh ls) M at' fuel code u p W) := by
  rcases h with ⟨B, n, hB, e, hn, hnum⟩ | ⟨k, hk', hxk, e⟩
  · injection e with e1 e2 e3
    injection e1 with e1
    subst e1 e3
    exact word_num hnum B M at' fuel hh code ls u p W hd hv ((kept_cell hk hB).trans hn.cell)
  · unfold wordFn at e
    injection e with e1 e2 e3
    injection e1 with e1
    subst e1 e3 hxk
    exact word_all k hk' M at' fuel hh code ls u p W hd hv hl hx
/-- What holds ahead of each word. -/
structure RunInv (L : List (List UInt8)) (M : Nat) (code : Value) (w wr : World) (i h : Nat) (ls : List Nat) : Prop where
  le : i ≤ L.length
  dry : DryS wr M code i (L.length - i) h ls
  run : Sp.drun L 0 [] = Sp.drun (L.drop i) h ls
  fm : Sp.fmd true (L.drop i) ls.length = true
  len : ls.length ≤ i
  hh : h ≤ 16
  kept : KeptTo M w wr

set_option maxHeartbeats 2000000 in
theorem run_any (L : List (List UInt8)) (M g cap : Nat) (u : TypeId) (p : Value) (w : World) (hl : L.length ≤ 4000) (hd : DryS w M (.slice (some ⟨g, 0, none⟩) L.length cap) 0 L.length 0 []) (hr : Hid (CodeRow w M g L)) (hf : Hid (Sp.fmd true L 0 = true)) (hM : 4 < M) (he : w.cell? ⟨4, 0, none⟩ = some (.iface u p)) :
    Calls Tryd.prog 67 #[.pointer (some ⟨M, 0, none⟩)] w (RPost (Sp.drun L 0 []) M (.slice (some ⟨g, 0, none⟩) L.length cap) u p w) := by
  generalize hO : RPost (Sp.drun L 0 []) M (.slice (some ⟨g, 0, none⟩) L.length cap) u p w = O
  replace hO := hide hO
  have HE := hide he
  clear he
  go_enter Tryd.func67, Tryd.ntmps67
  go_wp2_with fail
  go_loopw [] (fun wr => ∃ (i h : Nat) (ls : List Nat), Hid (RunInv L M (.slice (some ⟨g, 0, none⟩) L.length cap) w wr i h ls)) (fun wr => L.length - atM M wr)
  case atStart => exact ⟨0, 0, [], ⟨Nat.zero_le _, hd, rfl, unhide hf, Nat.le_refl _, by omega, Below.refl _ _⟩⟩
  case round =>
    obtain ⟨i, h, ls, HI⟩ := hrel
    have hi := (unhide HI).le
    obtain ⟨x, hx, hrow⟩ := (unhide HI).dry
    have HROW := hide hrow
    have e0 := hx.c0
    have e1 := hx.c1
    have e2 := hx.c2
    have f2 := hx.fz 2
    have HX := hide hx
    clear hx hrow hd
    have g0 : (0 : Int) ≤ (i : Int) := Int.natCast_nonneg _
    by_cases c : i < L.length
    · have c1 : (i : Int) < (L.length : Int) := by omega
      obtain ⟨q, hq, HQ⟩ : ∃ q, L.length - i = q + 1 ∧ Hid (L.length - i = q + 1) := ⟨L.length - i - 1, by omega, hide (by omega)⟩
      rw [hq] at e2
      have c2 : ((((q + 1 : Nat)) : Int) == 0) = false := beq_eq_false_iff_ne.2 (by omega)
      have c3 : ((q + 1 : Nat) : Int) - 1 = (q : Int) := by omega
      have c4 : q ≤ 4000 := by omega
      obtain ⟨fv, hfv, hfn⟩ := (unhide hr).2 i c
      have hgM := (unhide hr).1
      have e3 : wr.cell? ⟨g, i * 2, none⟩ = some fv := (kept_cell (unhide HI).kept hgM).trans hfv
      have hgm : M ≠ g := by omega
      clear hq
      obtain ⟨F, caps, rfl⟩ : ∃ F caps, fv = .func (.func F) #[] caps := by
        rcases hfn with ⟨B, n, _, rfl, _⟩ | ⟨k, _, _, rfl⟩
        · exact ⟨_, _, rfl⟩
        · exact ⟨_, _, rfl⟩
      have HFN := hide hfn
      have hcf := hfn.enter
      clear hfn hfv
      have HC : Hid (∀ k, Calls Tryd.prog F (#[.pointer (some ⟨M, 0, none⟩)] ++ caps) (((wr.drewN k).setCell ⟨M, 2, none⟩ (.int .i64 (q : Int))).drew) (WPost (Sp.dst L[i] h ls) M i q (.slice (some ⟨g, 0, none⟩) L.length cap) u p (((wr.drewN k).setCell ⟨M, 2, none⟩ (.int .i64 (q : Int))).drew))) := by
        show ∀ k, _
        intro k
        have hI := unhide HI
        have hbk := below_drewN wr k
        have hdk : DryS (wr.drewN k) M (.slice (some ⟨g, 0, none⟩) L.length cap) i (L.length - i) h ls := hI.dry.drewN k
        have hfm := hI.fm
        rw [List.drop_eq_getElem_cons c] at hfm
        refine (unhide HFN).calls (KeptTo.set (hI.kept.trans (hbk.mono (Nat.le_of_lt (unhide HX).lt))) _ _).drew ((hdk.fue q).drew) ⟨by omega, ?_, hI.hh⟩ (by have := hI.len; omega) ?_
        · rw [← unhide HE]
          exact kept_cell ((KeptTo.set (hI.kept.trans (hbk.mono (Nat.le_of_lt (unhide HX).lt))) _ _).drew) hM
        · intro h93 he
          obtain ⟨_, h2, _⟩ := Sp.fmd_cons hfm
          rw [h93, he, show Sp.ds [93] = -1 by decide] at h2
          simp at h2
      have hdr : Hid (∀ h' ls', Sp.dst L[i] h ls = some (h', ls') → Sp.drun (L.drop i) h ls = Sp.drun (L.drop (i + 1)) h' ls') := by
        show ∀ h' ls', _
        intro h' ls' e
        rw [List.drop_eq_getElem_cons c, Sp.drun, e]
      have hdn : Hid (Sp.dst L[i] h ls = none → Sp.drun (L.drop i) h ls = none) := by
        show _ → _
        intro e
        rw [List.drop_eq_getElem_cons c, Sp.drun, e]
      cases hD : Sp.dst L[i] h ls with
      | none =>
        rw [hD] at HC
        have HP : Hid (∀ k w1, KeptTo M (((wr.drewN k).setCell ⟨M, 2, none⟩ (.int .i64 (q : Int))).drew) w1 → O (.panicked [{ v := .iface u p, recovered := false }]) w1) := by
          show ∀ k w1, _
          intro k w1 hk
          have hI := unhide HI
          have hbk := below_drewN wr k
          rw [← unhide hO, hI.run, unhide hdn hD]
          exact ⟨((KeptTo.set (hI.kept.trans (hbk.mono (Nat.le_of_lt (unhide HX).lt))) _ _).drew).trans hk, rfl⟩
        clear hD
        go_wp2_with fail
        go_quiet (fail)
        go_wp2_with fail
        go_region_with (refine (unhide HC _).mono ?_; rintro e w1 ⟨hk1, rfl⟩; refine dead_end Tryd.prog w1 ⟨rfl, unhide HP _ w1 hk1⟩ ?_)
        all_goals trivial
      | some hl' =>
        obtain ⟨h', ls'⟩ := hl'
        rw [hD] at HC
        have HN : Hid (∀ k w1, KeptTo M (((wr.drewN k).setCell ⟨M, 2, none⟩ (.int .i64 (q : Int))).drew) w1 → DryS w1 M (.slice (some ⟨g, 0, none⟩) L.length cap) i q h' ls' → RunInv L M (.slice (some ⟨g, 0, none⟩) L.length cap) w (w1.setCell ⟨M, 1, none⟩ (.int .i64 ((i + 1 : Nat) : Int))) (i + 1) h' ls') := by
          show ∀ k w1, _
          intro k w1 hk hd
          have hI := unhide HI
          have hbk := below_drewN wr k
          have hQ := unhide HQ
          have hfm := hI.fm
          rw [List.drop_eq_getElem_cons c] at hfm
          obtain ⟨_, h2, h3⟩ := Sp.fmd_cons hfm
          have hx93 : L[i] = [93] → ls ≠ [] := by
            intro h93 he
            rw [h93, he, show Sp.ds [93] = -1 by decide] at h2
            simp at h2
          have hln := dst_len hx93 hD
          have hds := Sp.ds_bd L[i]
          have hlen := hI.len
          refine ⟨by omega, ?_, hI.run.trans (unhide hdr h' ls' hD), by rw [hln]; exact h3, by omega, dst_bd hI.hh hD, KeptTo.set (((KeptTo.set (hI.kept.trans (hbk.mono (Nat.le_of_lt (unhide HX).lt))) _ _).drew).trans hk) _ _⟩
          rw [show L.length - (i + 1) = q by omega]
          exact hd.att (i + 1)
        clear hD
        go_wp2_with fail
        go_quiet (fail)
        go_wp2_with fail
        go_region_with (refine (unhide HC _).mono ?_; rintro e w1 ⟨hk1, rfl, hd1⟩)
        all_goals
          have HI2 : Hid (RunInv L M (.slice (some ⟨g, 0, none⟩) L.length cap) w (w1.setCell ⟨M, 1, none⟩ (.int .i64 ((i + 1 : Nat) : Int))) (i + 1) h' ls') := unhide HN _ w1 hk1 hd1
          obtain ⟨x1, hx1, _⟩ := hd1
          have j1 := hx1.c1
          have j2 := hx1.fz 1
          have j3 : wrap64 ((i : Int) + 1) = ((i + 1 : Nat) : Int) := by unfold wrap64; omega
          clear hx1 hk1
          go_wp2
          go_roundw
          case rel => exact ⟨i + 1, h', ls', HI2⟩
          case measure =>
            have a1 := atM_of e1
            have a2 := atM_of (World.cell?_setCell_same w1 ⟨M, 1, none⟩ (.int .i64 ((i : Int) + 1)) j1)
            rw [a1, a2]
            omega
    · have c1 : ¬ (i : Int) < (L.length : Int) := by omega
      have ei : i = L.length := by omega
      go_wp2_with fail
      go_quiet (fail)
      go_wp2
      refine bodyPost_end (results_none rfl _ _ _) rfl ?_
      have hI := unhide HI
      rw [← unhide hO, hI.run, ei, List.drop_of_length_le (Nat.le_refl _)]
      exact ⟨hI.kept.trans ((below_drewN wr nq).mono (Nat.le_of_lt (unhide HX).lt)), rfl, _, _, hI.dry.drewN nq⟩
end Go.Proofs.YteflnddphpjahaaDoor
