import Derived.Test.YteflnddphpjahaaDoorClCqN
import Derived.Test.YteflnddphpjahaaDoorClComtoCopyK
import Derived.Test.YteflnddphpjahaaDoorClRefFtoRefG
import Derived.Laws.MakeOwn
import Derived.Deep.RegionLaw
import Derived.Deep.DeepMust
/-
  The program's readCode.
-/
set_option linter.unusedVariables false
set_option linter.unusedSimpArgs false
set_option maxRecDepth 100000
namespace Go.Proofs.YteflnddphpjahaaDoor
open Go.RowKit

theorem Tryd.info_order : (Tryd.prog.info? 188).map (fun i => (i.zero, i.size, i.bytes)) = some (some (.agg #[.nilFunc, .int .i64 0]), 2, 16) := by kernel_rfl
/-- Places as they lie. -/
def iz (l : List Nat) : List Value := l.map fun (n : Nat) => .int .i64 (n : Int)
/-- What readCode leaves. -/
def RCPost (wt : Bool) (L : List (List UInt8)) (w : World) (e : Ending) (w' : World) : Prop :=
  Below w.heap.size w w' ∧ ((Sp.fmd wt L 0 = true ∧ ∃ g cap fs ms, e = .returned (.tuple #[.slice (some ⟨g, 0, none⟩) L.length cap, .bool true]) ∧ w.heap.size ≤ g ∧ w'.ownsRow w.heap.size 188 2 (.slice (some ⟨g, 0, none⟩) L.length cap) L.length (cz fs ms) ∧ fs.length = L.length ∧ Sp.rdTo L L.length = some (ms, []) ∧ ∀ j (hj : j < L.length), Fn w' w'.heap.size L[j] (fs.getD j .nilFunc)) ∨ (Sp.fmd wt L 0 = false ∧ ∃ p n cap, e = .returned (.tuple #[.slice p n cap, .bool false])))
/-- What holds ahead of each word. -/
structure RdInv (wt : Bool) (L : List (List UInt8)) (w wr : World) (i : Nat) (c o : Value) (fs : List Value) (ms op : List Nat) : Prop where
  le : i ≤ L.length
  below : Below w.heap.size w wr
  row : wr.ownsRow w.heap.size 188 2 c i (cz fs ms)
  ops : wr.ownsRow w.heap.size 3 1 o op.length (iz op)
  fl : fs.length = i
  rd : Sp.rdTo L i = some (ms, op)
  fm : Sp.fmd wt L 0 = Sp.fmd wt (L.drop i) op.length
  fn : ∀ j (hj : j < L.length), j < i → Fn wr wr.heap.size L[j] (fs.getD j .nilFunc)
  ol : ∀ x ∈ op, x < i
  oi : op.length ≤ i

theorem Fn.below {w w' : World} {x : List UInt8} {fv : Value} (h : Fn w w.heap.size x fv) (hb : Below w.heap.size w w') : Fn w' w'.heap.size x fv := by
  rcases h with ⟨B, n, h1, h2, h3, h4⟩ | h
  · exact Or.inl ⟨B, n, Nat.lt_of_lt_of_le h1 hb.size, h2, (hb.block B h1).trans h3, h4⟩
  · exact Or.inr h
theorem Fn.grown {w w' : World} {x : List UInt8} {fv v : Value} {B e size n : Nat} {xs : List Value} (h : Fn w w.heap.size x fv) (ho : w.ownsRow B e size v n xs) (hg : w.grownBy w' v.ownBlock) (he : e ≠ 2) : Fn w' w'.heap.size x fv := by
  rcases h with ⟨D, m, h1, h2, h3, h4⟩ | h
  · refine Or.inl ⟨D, m, Nat.lt_of_lt_of_le h1 hg.size, h2, ?_, h4⟩
    refine (hg.block D h1 ?_).trans h3
    intro hD
    rcases ho.2 with ⟨rfl, _⟩ | ⟨g, cap, cur, rfl, _, hgg, _⟩
    · simp [Value.ownBlock] at hD
    · simp only [Value.ownBlock, Option.some.injEq] at hD
      subst hD
      unfold NumAt at h3
      rw [hgg] at h3
      injection h3 with h3
      injection h3 with _ h5
      exact he h5
  · exact Or.inr h
/-- The rows behind the append of a word. -/
structure RdMid (L : List (List UInt8)) (B : Nat) (wr : World) (i : Nat) (c o : Value) (fs : List Value) (ms op : List Nat) : Prop where
  row : wr.ownsRow B 188 2 c (i + 1) (cz fs ms)
  ops : wr.ownsRow B 3 1 o op.length (iz op)
  fl : fs.length = i + 1
  ml : ms.length = i + 1
  fn : ∀ j (hj : j < L.length), j < i + 1 → Fn wr wr.heap.size L[j] (fs.getD j .nilFunc)
theorem getD_app {fs : List Value} {v d : Value} {j i : Nat} (hl : fs.length = i) : (fs ++ [v]).getD j d = if j < i then fs.getD j d else if j = i then v else d := by
  rw [List.getD_eq_getElem?_getD, List.getD_eq_getElem?_getD]
  by_cases h : j < i
  · rw [if_pos h, List.getElem?_append_left (by omega)]
  · rw [if_neg h, List.getElem?_append_right (by omega), hl]
    by_cases h2 : j = i
    · subst h2; simp
    · rw [if_neg h2, List.getElem?_eq_none (by simp; omega)]; rfl
theorem rd_mid {wt : Bool} {L : List (List UInt8)} {w wr w1 w2 w3 : World} {i : Nat} {c c' o fv : Value} {fs : List Value} {ms op : List Nat} (hI : RdInv wt L w wr i c o fs ms op) (hi : i < L.length) (hb1 : Below wr.heap.size wr w1) (hfn : Fn w1 w1.heap.size L[i] fv) (hb2 : Below w1.heap.size w1 w2)
    (hl3 : w3.ownsRow w.heap.size 188 2 c' (i + 1) (cz fs ms ++ [fv, .int .i64 0])) (hg3 : w2.grownBy w3 c.ownBlock) : RdMid L w.heap.size w3 i c' o (fs ++ [fv]) (ms ++ [0]) op ∧ Below w.heap.size w w3 := by
  have hbw := hb1.trans (hb2.mono hb1.size)
  have r2 := own_below hI.row hbw
  have o2 := own_below hI.ops hbw
  have hml : ms.length = i := by
    have h1 := hI.row.1
    have : ∀ (k : Nat) (m' o' : List Nat), Sp.rdTo L k = some (m', o') → m'.length = k := by
      intro k
      induction k with
      | zero => intro m' o' h; simp [Sp.rdTo] at h; obtain ⟨rfl, _⟩ := h; rfl
      | succ k ih =>
        intro m' o' h
        simp only [Sp.rdTo] at h
        split at h
        · cases h
        · rename_i m2 o2 h2
          rw [(Sp.rst_len h).1, ih _ _ h2]
    exact this _ _ _ hI.rd
  refine ⟨⟨?_, own_app r2 o2 (by decide) hg3, by simp [hI.fl], by simp [hml], ?_⟩, ?_⟩
  · rw [cz_app _ _ _ _ (by rw [hI.fl, hml])]; exact hl3
  · intro j hj hj2
    rw [getD_app hI.fl]
    by_cases h : j < i
    · rw [if_pos h]
      exact (((hI.fn j hj h).below hb1).below hb2).grown r2 hg3 (by decide)
    · have e : j = i := by omega
      subst e
      rw [if_neg h, if_pos rfl]
      exact (hfn.below hb2).grown r2 hg3 (by decide)
  · exact rel_app (ys := []) (v' := c') (Nat.le_trans hI.below.size hbw.size) r2 (hI.below.trans (hbw.mono hI.below.size)) hg3
/-- Words that are no brackets. -/
theorem rd_plain {wt : Bool} {L : List (List UInt8)} {w wr w3 : World} {i : Nat} {c c' o fv : Value} {fs : List Value} {ms op : List Nat} (hI : RdInv wt L w wr i c o fs ms op) (hi : i < L.length) (hm : RdMid L w.heap.size w3 i c' o (fs ++ [fv]) (ms ++ [0]) op) (hb : Below w.heap.size w w3) (ht : Sp.tk wt L[i] ≠ none) (h1 : L[i] ≠ [91]) (h2 : L[i] ≠ [93]) :
    RdInv wt L w w3 (i + 1) c' o (fs ++ [fv]) (ms ++ [0]) op := by
  have hd := Sp.ds_none h1 h2
  refine ⟨by omega, hb, hm.row, hm.ops, hm.fl, ?_, ?_, fun j hj hj2 => hm.fn j hj hj2, fun x hx => by have := hI.ol x hx; omega, by have := hI.oi; omega⟩
  · rw [Sp.rdTo, hI.rd]
    simp only
    rw [List.getD_eq_getElem?_getD, List.getElem?_eq_getElem hi, Option.getD_some, Sp.rst, if_neg h1, if_neg h2]
  · rw [hI.fm, List.drop_eq_getElem_cons hi, Sp.fmd, if_neg (by rintro (hc | hc); exact ht hc; rw [hd] at hc; omega), hd]
    simp
theorem rd_open {wt : Bool} {L : List (List UInt8)} {w wr w3 w4 : World} {i : Nat} {c c' o o' fv : Value} {fs : List Value} {ms op : List Nat} (hI : RdInv wt L w wr i c o fs ms op) (hi : i < L.length) (hm : RdMid L w.heap.size w3 i c' o (fs ++ [fv]) (ms ++ [0]) op) (hb : Below w.heap.size w w3) (h1 : L[i] = [91])
    (hl4 : w4.ownsRow w.heap.size 3 1 o' (op.length + 1) (iz op ++ [.int .i64 i])) (w3' : World) (hb3 : Below w3.heap.size w3 w3') (hg4 : w3'.grownBy w4 o.ownBlock) :
    RdInv wt L w w4 (i + 1) c' o' (fs ++ [fv]) (ms ++ [0]) (op ++ [i]) := by
  have r3 := own_below hm.row hb3
  have o3 := own_below hm.ops hb3
  have ht : Sp.tk wt L[i] ≠ none := by rw [h1]; cases wt <;> decide
  have hd : Sp.ds L[i] = 1 := by rw [h1]; decide
  refine ⟨by omega, rel_app (ys := []) (v' := o') (Nat.le_trans hb.size hb3.size) o3 (hb.trans (hb3.mono hb.size)) hg4, own_app o3 r3 (by decide) hg4, ?_, hm.fl, ?_, ?_, fun j hj hj2 => ((hm.fn j hj hj2).below hb3).grown o3 hg4 (by decide), ?_, by have := hI.oi; simp; omega⟩
  · rw [show (op ++ [i]).length = op.length + 1 by simp, show iz (op ++ [i]) = iz op ++ [.int .i64 i] by simp [iz]]; exact hl4
  · rw [Sp.rdTo, hI.rd]
    simp only
    rw [List.getD_eq_getElem?_getD, List.getElem?_eq_getElem hi, Option.getD_some, Sp.rst, if_pos h1]
  · rw [hI.fm, List.drop_eq_getElem_cons hi, Sp.fmd, if_neg (by rintro (hc | hc); exact ht hc; rw [hd] at hc; omega), hd]
    simp
  · intro x hx
    rcases List.mem_append.1 hx with hx | hx
    · have := hI.ol x hx; omega
    · rw [List.mem_singleton] at hx; omega
/-- A bracket that shuts: what the two stores leave. -/
theorem rd_shut {wt : Bool} {L : List (List UInt8)} {w wr w3 : World} {i l gc cc go co : Nat} {c fv : Value} {fs : List Value} {ms op : List Nat} (hI : RdInv wt L w wr i c (.slice (some ⟨go, 0, none⟩) (op.length + 1) co) fs ms (op ++ [l])) (hi : i < L.length) (hm : RdMid L w.heap.size w3 i (.slice (some ⟨gc, 0, none⟩) (i + 1) cc) (.slice (some ⟨go, 0, none⟩) (op.length + 1) co) (fs ++ [fv]) (ms ++ [0]) (op ++ [l])) (hb : Below w.heap.size w w3) (h1 : L[i] = [93]) :
    RdInv wt L w ((w3.setCell ⟨gc, i * 2 + 1, none⟩ (.int .i64 l)).setCell ⟨gc, l * 2 + 1, none⟩ (.int .i64 i)) (i + 1) (.slice (some ⟨gc, 0, none⟩) (i + 1) cc) (.slice (some ⟨go, 0, none⟩) op.length co) (fs ++ [fv]) (((ms ++ [0]).set i l).set l i) op := by
  have hne : L[i] ≠ [91] := by rw [h1]; decide
  have ht : Sp.tk wt L[i] ≠ none := by rw [h1]; cases wt <;> decide
  have hd : Sp.ds L[i] = -1 := by rw [h1]; decide
  have s1 := hm.row.stored (i * 2 + 1) (.int .i64 l)
  have s2 := s1.1.stored (l * 2 + 1) (.int .i64 i)
  have hlen : (fs ++ [fv]).length = (ms ++ [0]).length := by rw [hm.fl, hm.ml]
  rw [cz_set _ _ _ _ hlen, cz_set _ _ _ _ (by rw [List.length_set]; exact hlen)] at s2
  have o1 := own_app hm.row hm.ops (by decide) s1.2
  have o2 := own_app s1.1 o1 (by decide) s2.2
  have hbg := (hm.row.lt gc rfl).1
  have o3 : ((w3.setCell ⟨gc, i * 2 + 1, none⟩ (.int .i64 l)).setCell ⟨gc, l * 2 + 1, none⟩ (.int .i64 i)).ownsRow w.heap.size 3 1 (.slice (some ⟨go, 0, none⟩) (op.length + 1) co) (op.length + 1) (iz (op ++ [l])) := by
    have e : (op ++ [l]).length = op.length + 1 := by simp
    rw [e] at o2; exact o2
  have o4 := own_cut o3
  have e4 : (iz (op ++ [l])).take (op.length * 1) = iz op := by simp [iz]
  rw [e4] at o4
  refine ⟨by omega, (hb.setCell hbg _).setCell hbg _, s2.1, o4, hm.fl, ?_, ?_, fun j hj hj2 => ((hm.fn j hj hj2).grown hm.row s1.2 (by decide)).grown s1.1 s2.2 (by decide), fun x hx => by have := hI.ol x (List.mem_append_left _ hx); omega, by have := hI.oi; simp at this; omega⟩
  · rw [Sp.rdTo, hI.rd]
    simp only
    rw [List.getD_eq_getElem?_getD, List.getElem?_eq_getElem hi, Option.getD_some, Sp.rst, if_neg hne, if_pos h1]
    simp
  · rw [hI.fm, List.drop_eq_getElem_cons hi, Sp.fmd, if_neg (by rintro (hc | hc); exact ht hc; rw [hd] at hc; simp at hc; omega), hd]
    simp
    congr 1
    omega
theorem own_last {w : World} {B l : Nat} {o : Value} {op : List Nat} (h : w.ownsRow B 3 1 o (op ++ [l]).length (iz (op ++ [l]))) : ∃ g cap, o = Value.slice (some ⟨g, 0, none⟩) (op.length + 1) cap ∧ w.cell? ⟨g, op.length, none⟩ = some (.int .i64 (l : Int)) ∧ op.length ≤ cap := by
  rw [show (op ++ [l]).length = op.length + 1 by simp] at h
  rcases h.2 with ⟨_, hn⟩ | ⟨g, cap, cur, rfl, _, _, hc, _⟩
  · omega
  · refine ⟨g, cap, rfl, (h.cellAt op.length (by omega)).trans ?_, by omega⟩
    simp [iz]
theorem _root_.Go.World.ownsRow.mate {w : World} {B n g cap : Nat} {fs : List Value} {ms : List Nat} (h : w.ownsRow B 188 2 (.slice (some ⟨g, 0, none⟩) n cap) n (cz fs ms)) {j : Nat} (hj : j < n) : ∃ y, w.cell? ⟨g, j * 2 + 1, none⟩ = some y := by
  have h1 := h.cellAt (j * 2 + 1) (by omega)
  have h2 : (cz fs ms).length = n * 2 := h.1
  exact ⟨_, h1.trans (List.getElem?_eq_getElem (by omega))⟩
set_option maxHeartbeats 4000000 in
theorem readCode_any (X : List ByteArray) (p : Option Addr) (cap b : Nat) (wt : Bool) (w : World) (hX : SAt w p X) (hl : X.length ≤ 4000) (h0 : 0 < X.length) (hz : ∀ x ∈ X, x.size ≤ 4000) (hW : WordsAt b w) :
    Calls Tryd.prog 115 #[.slice p X.length cap, .slice (some ⟨b, 0, none⟩) 25 25, .bool wt] w (RCPost wt (lst X) w) := by
  obtain ⟨t2, ht2, hva, hvb, hvc⟩ := info_parts Tryd.info_order
  obtain ⟨t1, ht1, hua, hub, huc⟩ := info_parts Tryd.info_int
  have HX := hide hX
  have HZ := hide hz
  have HW := hide hW
  have HLL := hide (lst_len X)
  clear hX hz hW
  generalize hO : RCPost wt (lst X) w = O
  replace hO := hide hO
  go_enter Tryd.func115, Tryd.ntmps115
  go_wp2_with fail
  go_loopw [8, 9, 17] (fun cv ov u wr => ∃ (i : Nat) (fs : List Value) (ms op : List Nat), u = .int .i64 i ∧ i ≤ X.length ∧ Hid (RdInv wt (lst X) w wr i cv ov fs ms op)) (fun _ _ u _ => X.length - (intOf u).toNat)
  case atStart => exact ⟨0, [], [], [], rfl, Nat.zero_le _, ⟨Nat.zero_le _, Below.refl _ _, World.ownsRow_nil _ _ _ _, World.ownsRow_nil _ _ _ _, rfl, rfl, by simp, fun j hj hj2 => absurd hj2 (by omega), fun x hx => absurd hx (by simp), Nat.le_refl _⟩⟩
  case round =>
    obtain ⟨i, fs, ms, op, rfl, hi, HI⟩ := hrel
    have g0 : (0 : Int) ≤ (i : Int) := Int.natCast_nonneg _
    by_cases c : i < X.length
    · have c1 : (i : Int) < (X.length : Int) := by omega
      have hI := unhide HI
      obtain ⟨g, off, rfl, hgl, hcell⟩ := (unhide HX) i c
      have hcx : wr.cell? ⟨g, off + i, none⟩ = some (.string X[i]) := (hI.below.cell (p := ⟨g, off + i, none⟩) hgl).trans hcell
      have hxz := (unhide HZ) _ (List.getElem_mem c)
      have hL : (lst X)[i]'(by rw [unhide HLL]; exact c) = X[i].data.toList := lst_get c
      have hil : i < (lst X).length := by rw [unhide HLL]; exact c
      generalize X[i] = x at hcx hxz hL
      have HL := hide hL
      have hWr := (unhide HW).below hI.below
      clear hcell hL hI
      go_wp2_with fail
      refine (findWord_any x b wr hxz hWr).mono ?_
      rintro e w1 ⟨hb1, ⟨nm, nw, F, caps, rfl, hfn, ht, htw, htf⟩ | ⟨ht1, ht2, rfl⟩⟩
      · have hfz := hfn
        rw [← unhide HL] at hfn
        by_cases hbad : nw = true ∧ wt = false
        · obtain ⟨rfl, rfl⟩ := hbad
          have hp : O (.returned (.tuple #[.slice none 0 0, .bool false])) (w1.alloc (.cells #[.string nm, .bool true, .func (.func F) #[] caps] 172)) := by
            rw [← unhide hO]
            have hI := unhide HI
            refine ⟨(hI.below.trans (hb1.mono hI.below.size)).alloc (Nat.le_trans hI.below.size hb1.size) _, Or.inr ⟨?_, _, _, _, rfl⟩⟩
            rw [hI.fm, List.drop_eq_getElem_cons hil, Sp.fmd, if_pos (Or.inl (by rw [unhide HL]; exact htw rfl))]
          clear hb1 hfn hfz
          go_wp2
          exact hp
        · have htk : Hid (Sp.tk wt (lst X)[i] ≠ none) := by
            show _ ≠ _
            rw [unhide HL]
            cases wt with
            | true => exact ht
            | false => exact htf (by cases nw with
              | true => exact absurd ⟨rfl, rfl⟩ hbad
              | false => rfl)
          have hI := unhide HI
          have hb2 : Below w1.heap.size w1 ((w1.alloc (.cells #[.string nm, .bool nw, .func (.func F) #[] caps] 172)).alloc (.cells #[.func (.func F) #[] caps, .int .i64 0] 188)) := ((Below.refl w1.heap.size w1).alloc (Nat.le_refl _) _).alloc (by simp) _
          have hbw := hb1.trans (hb2.mono hb1.size)
          have r2 := own_below hI.row hbw
          have hsz := Nat.le_trans hI.below.size hbw.size
          have HFN := hide hfn
          have HB1 := hide hb1
          clear hfn hfz hb1 ht htw htf hI hbw
          cases nw with
          | true =>
            obtain rfl : wt = true := by cases wt with
              | true => rfl
              | false => exact absurd ⟨rfl, rfl⟩ hbad
            clear hbad
            go_wp2_with (first
              | (at_builtin; go_must (refine wpList_append_own _ rfl (.tmp 38) (.tmp 42) 111 rfl w.heap.size 188 t2 _ 2 16 Tryd.underlying111 ht2 hva hvb hvc rfl (by decide) _ _ _ rfl r2 ⟨w1.heap.size + 1, 0, none⟩ 1 1 [.func (.func F) #[] caps, .int .i64 0] rfl rfl ?c1 ?c2 ?c3 ?c4 ?c5 ?_))
              | go_in)
            case c1 =>
              intro j u hj
              match j, hj with
              | 0, hj => simp at hj; subst hj; simp [Addr.add]
              | 1, hj => simp at hj; subst hj; simp [Addr.add]
              | j + 2, hj => simp at hj
            case c2 => intro u hu; simp at hu; rcases hu with rfl | rfl <;> rfl
            case c3 => unfold maxLen; omega
            case c4 => omega
            case c5 => exact hsz
            intro c3 w3 hl3 hg3 hne3
            obtain ⟨hmid, hbm⟩ := rd_mid (unhide HI) hil (unhide HB1) (unhide HFN) hb2 hl3 hg3
            obtain ⟨g3, cap3, rfl⟩ : ∃ g cap, c3 = .slice (some ⟨g, 0, none⟩) (i + 1) cap := by
              rcases hl3.2 with ⟨_, hn0⟩ | ⟨g, cap, cur, hv, _⟩
              · omega
              · exact ⟨g, cap, hv⟩
            have HM := hide hmid
            have HBM := hide hbm
            clear hl3 hg3 r2 hb2 hmid hbm hsz HB1 hne3
            by_cases h91 : x.data.toList = [91]
            · have t91 : (x.toList == [91]) = true := by rw [toL, h91]; decide
              have H91 := hide h91
              clear h91
              have o3 := (unhide HM).ops
              have hsz3 := (unhide HBM).size
              go_wp2_with (first
                | (at_builtin; go_must (refine wpList_append_own _ rfl (.tmp 47) (.tmp 49) 32 rfl w.heap.size 3 t1 _ 1 8 Tryd.underlying32 ht1 hua hub huc rfl (by decide) _ _ _ rfl (o3.alloc _) ⟨w3.heap.size, 0, none⟩ 1 1 [.int .i64 (i : Int)] rfl rfl ?d1 ?d2 ?d3 ?d4 ?d5 ?_))
                | go_in)
              case d1 =>
                intro j u hj
                match j, hj with
                | 0, hj => simp at hj; subst hj; simp [Addr.add]
                | j + 1, hj => simp at hj
              case d2 => intro u hu; simp at hu; subst hu; rfl
              case d3 => have := (unhide HI).oi; unfold maxLen; omega
              case d4 => have := (unhide HI).oi; omega
              case d5 => simp; omega
              intro o4 w4 hl4 hg4 hne4
              have HI4 := hide (rd_open (unhide HI) hil (unhide HM) (unhide HBM) ((unhide HL).trans (unhide H91)) hl4 _ ((Below.refl w3.heap.size w3).alloc (Nat.le_refl _) _) hg4)
              obtain ⟨q4, k4, rfl, _⟩ := own_slice hl4
              clear hl4 hg4 o3
              go_wp2
              go_roundw
              case rel => exact ⟨i + 1, _, _, _, by go_num, by omega, HI4⟩
              case measure => simp [intOf]; omega
            · have t91 : (x.toList == [91]) = false := by rw [toL]; exact beq_eq_false_iff_ne.2 h91
              have H91 := hide h91
              clear h91
              by_cases h93 : x.data.toList = [93]
              · have t93 : (x.toList == [93]) = true := by rw [toL, h93]; decide
                have H93 := hide h93
                clear h93
                have o3 := (unhide HM).ops
                by_cases h0p : op = []
                · subst h0p
                  obtain ⟨qo, ko, rfl, _⟩ := own_slice o3
                  have hp : O (.returned (.tuple #[.slice none 0 0, .bool false])) w3 := by
                    rw [← unhide hO]
                    have hI := unhide HI
                    refine ⟨unhide HBM, Or.inr ⟨?_, _, _, _, rfl⟩⟩
                    rw [hI.fm, List.drop_eq_getElem_cons hil, Sp.fmd, if_pos (Or.inr (by rw [unhide HL, unhide H93]; decide))]
                  clear o3
                  go_wp2
                  exact hp
                · obtain ⟨op, l, rfl⟩ : ∃ a m, op = a ++ [m] := ⟨op.dropLast, op.getLast h0p, (List.dropLast_concat_getLast h0p).symm⟩
                  clear h0p
                  obtain ⟨go, co, rfl, hgo, hcap⟩ : ∃ g cap, _ = Value.slice (some ⟨g, 0, none⟩) (op.length + 1) cap ∧ w3.cell? ⟨g, op.length, none⟩ = some (.int .i64 (l : Int)) ∧ op.length ≤ cap := own_last o3
                  have hll : l < i := (unhide HI).ol l (by simp)
                  have hll2 : l < i + 1 := by omega
                  have HI4 := hide (rd_shut (unhide HI) hil (unhide HM) (unhide HBM) ((unhide HL).trans (unhide H93)))
                  have hoi : op.length ≤ 4000 := by have := (unhide HI).oi; simp at this; omega
                  obtain ⟨y1, hy1⟩ := (unhide HM).row.mate (j := i) (by omega)
                  obtain ⟨y2, hy2⟩ := (unhide HM).row.mate (j := l) (by omega)
                  have hy3 : (w3.setCell ⟨g3, i * 2 + 1, none⟩ (.int .i64 (l : Int))).cell? ⟨g3, l * 2 + 1, none⟩ = some y2 := (cell_set_other (by omega)).trans hy2
                  have z1 := (unhide HM).row.frozenAt (i * 2 + 1)
                  have z2 := (unhide HM).row.frozenAt (l * 2 + 1)
                  have g1 : ((op.length + 1 : Nat) : Int) - 1 = (op.length : Int) := by omega
                  have g2 : (0 : Int) ≤ (op.length : Int) := Int.natCast_nonneg _
                  have g3 : (op.length : Int) < ((op.length + 1 : Nat) : Int) := by omega
                  have g4 : (op.length : Int) ≤ (co : Int) := by omega
                  have g5 : (0 : Int) ≤ (l : Int) := Int.natCast_nonneg _
                  have g6 : (l : Int) < ((i + 1 : Nat) : Int) := by omega
                  have g7 : (i : Int) < ((i + 1 : Nat) : Int) := by omega
                  clear o3
                  go_wp2
                  go_roundw
                  case rel => exact ⟨i + 1, _, _, _, by go_num, by omega, HI4⟩
                  case measure => simp [intOf]; omega
              · have t93 : (x.toList == [93]) = false := by rw [toL]; exact beq_eq_false_iff_ne.2 h93
                have H93 := hide h93
                clear h93
                have HI4 := hide (rd_plain (unhide HI) hil (unhide HM) (unhide HBM) (unhide htk) (by rw [unhide HL]; exact unhide H91) (by rw [unhide HL]; exact unhide H93))
                go_wp2
                go_roundw
                case rel => exact ⟨i + 1, _, _, _, by go_num, by omega, HI4⟩
                case measure => simp [intOf]; omega
          | false =>
            clear hbad
            go_wp2_with (first
              | (at_builtin; go_must (refine wpList_append_own _ rfl (.tmp 38) (.tmp 42) 111 rfl w.heap.size 188 t2 _ 2 16 Tryd.underlying111 ht2 hva hvb hvc rfl (by decide) _ _ _ rfl r2 ⟨w1.heap.size + 1, 0, none⟩ 1 1 [.func (.func F) #[] caps, .int .i64 0] rfl rfl ?c1 ?c2 ?c3 ?c4 ?c5 ?_))
              | go_in)
            case c1 =>
              intro j u hj
              match j, hj with
              | 0, hj => simp at hj; subst hj; simp [Addr.add]
              | 1, hj => simp at hj; subst hj; simp [Addr.add]
              | j + 2, hj => simp at hj
            case c2 => intro u hu; simp at hu; rcases hu with rfl | rfl <;> rfl
            case c3 => unfold maxLen; omega
            case c4 => omega
            case c5 => exact hsz
            intro c3 w3 hl3 hg3 hne3
            obtain ⟨hmid, hbm⟩ := rd_mid (unhide HI) hil (unhide HB1) (unhide HFN) hb2 hl3 hg3
            obtain ⟨g3, cap3, rfl⟩ : ∃ g cap, c3 = .slice (some ⟨g, 0, none⟩) (i + 1) cap := by
              rcases hl3.2 with ⟨_, hn0⟩ | ⟨g, cap, cur, hv, _⟩
              · omega
              · exact ⟨g, cap, hv⟩
            have HM := hide hmid
            have HBM := hide hbm
            clear hl3 hg3 r2 hb2 hmid hbm hsz HB1 hne3
            by_cases h91 : x.data.toList = [91]
            · have t91 : (x.toList == [91]) = true := by rw [toL, h91]; decide
              have H91 := hide h91
              clear h91
              have o3 := (unhide HM).ops
              have hsz3 := (unhide HBM).size
              go_wp2_with (first
                | (at_builtin; go_must (refine wpList_append_own _ rfl (.tmp 47) (.tmp 49) 32 rfl w.heap.size 3 t1 _ 1 8 Tryd.underlying32 ht1 hua hub huc rfl (by decide) _ _ _ rfl (o3.alloc _) ⟨w3.heap.size, 0, none⟩ 1 1 [.int .i64 (i : Int)] rfl rfl ?d1 ?d2 ?d3 ?d4 ?d5 ?_))
                | go_in)
              case d1 =>
                intro j u hj
                match j, hj with
                | 0, hj => simp at hj; subst hj; simp [Addr.add]
                | j + 1, hj => simp at hj
              case d2 => intro u hu; simp at hu; subst hu; rfl
              case d3 => have := (unhide HI).oi; unfold maxLen; omega
              case d4 => have := (unhide HI).oi; omega
              case d5 => simp; omega
              intro o4 w4 hl4 hg4 hne4
              have HI4 := hide (rd_open (unhide HI) hil (unhide HM) (unhide HBM) ((unhide HL).trans (unhide H91)) hl4 _ ((Below.refl w3.heap.size w3).alloc (Nat.le_refl _) _) hg4)
              obtain ⟨q4, k4, rfl, _⟩ := own_slice hl4
              clear hl4 hg4 o3
              go_wp2
              go_roundw
              case rel => exact ⟨i + 1, _, _, _, by go_num, by omega, HI4⟩
              case measure => simp [intOf]; omega
            · have t91 : (x.toList == [91]) = false := by rw [toL]; exact beq_eq_false_iff_ne.2 h91
              have H91 := hide h91
              clear h91
              by_cases h93 : x.data.toList = [93]
              · have t93 : (x.toList == [93]) = true := by rw [toL, h93]; decide
                have H93 := hide h93
                clear h93
                have o3 := (unhide HM).ops
                by_cases h0p : op = []
                · subst h0p
                  obtain ⟨qo, ko, rfl, _⟩ := own_slice o3
                  have hp : O (.returned (.tuple #[.slice none 0 0, .bool false])) w3 := by
                    rw [← unhide hO]
                    have hI := unhide HI
                    refine ⟨unhide HBM, Or.inr ⟨?_, _, _, _, rfl⟩⟩
                    rw [hI.fm, List.drop_eq_getElem_cons hil, Sp.fmd, if_pos (Or.inr (by rw [unhide HL, unhide H93]; decide))]
                  clear o3
                  go_wp2
                  exact hp
                · obtain ⟨op, l, rfl⟩ : ∃ a m, op = a ++ [m] := ⟨op.dropLast, op.getLast h0p, (List.dropLast_concat_getLast h0p).symm⟩
                  clear h0p
                  obtain ⟨go, co, rfl, hgo, hcap⟩ : ∃ g cap, _ = Value.slice (some ⟨g, 0, none⟩) (op.length + 1) cap ∧ w3.cell? ⟨g, op.length, none⟩ = some (.int .i64 (l : Int)) ∧ op.length ≤ cap := own_last o3
                  have hll : l < i := (unhide HI).ol l (by simp)
                  have hll2 : l < i + 1 := by omega
                  have HI4 := hide (rd_shut (unhide HI) hil (unhide HM) (unhide HBM) ((unhide HL).trans (unhide H93)))
                  have hoi : op.length ≤ 4000 := by have := (unhide HI).oi; simp at this; omega
                  obtain ⟨y1, hy1⟩ := (unhide HM).row.mate (j := i) (by omega)
                  obtain ⟨y2, hy2⟩ := (unhide HM).row.mate (j := l) (by omega)
                  have hy3 : (w3.setCell ⟨g3, i * 2 + 1, none⟩ (.int .i64 (l : Int))).cell? ⟨g3, l * 2 + 1, none⟩ = some y2 := (cell_set_other (by omega)).trans hy2
                  have z1 := (unhide HM).row.frozenAt (i * 2 + 1)
                  have z2 := (unhide HM).row.frozenAt (l * 2 + 1)
                  have g1 : ((op.length + 1 : Nat) : Int) - 1 = (op.length : Int) := by omega
                  have g2 : (0 : Int) ≤ (op.length : Int) := Int.natCast_nonneg _
                  have g3 : (op.length : Int) < ((op.length + 1 : Nat) : Int) := by omega
                  have g4 : (op.length : Int) ≤ (co : Int) := by omega
                  have g5 : (0 : Int) ≤ (l : Int) := Int.natCast_nonneg _
                  have g6 : (l : Int) < ((i + 1 : Nat) : Int) := by omega
                  have g7 : (i : Int) < ((i + 1 : Nat) : Int) := by omega
                  clear o3
                  go_wp2
                  go_roundw
                  case rel => exact ⟨i + 1, _, _, _, by go_num, by omega, HI4⟩
                  case measure => simp [intOf]; omega
              · have t93 : (x.toList == [93]) = false := by rw [toL]; exact beq_eq_false_iff_ne.2 h93
                have H93 := hide h93
                clear h93
                have HI4 := hide (rd_plain (unhide HI) hil (unhide HM) (unhide HBM) (unhide htk) (by rw [unhide HL]; exact unhide H91) (by rw [unhide HL]; exact unhide H93))
                go_wp2
                go_roundw
                case rel => exact ⟨i + 1, _, _, _, by go_num, by omega, HI4⟩
                case measure => simp [intOf]; omega
      · have hp : O (.returned (.tuple #[.slice none 0 0, .bool false])) (w1.alloc (.cells #[.string ⟨#[]⟩, .bool false, .nilFunc] 172)) := by
          rw [← unhide hO]
          have hI := unhide HI
          refine ⟨(hI.below.trans (hb1.mono hI.below.size)).alloc (Nat.le_trans hI.below.size hb1.size) _, Or.inr ⟨?_, _, _, _, rfl⟩⟩
          rw [hI.fm, List.drop_eq_getElem_cons hil, Sp.fmd, if_pos (Or.inl (by rw [unhide HL]; cases wt; exact ht2; exact ht1))]
        unfold noWord
        clear hb1
        go_wp2
        exact hp
    · have c1 : ¬ (i : Int) < (X.length : Int) := by omega
      have ei : i = X.length := by omega
      subst ei
      have hI := unhide HI
      have eil : X.length = (lst X).length := (unhide HLL).symm
      by_cases h0 : op = []
      · subst h0
        obtain ⟨qc, kc, rfl, hcs⟩ := own_slice hI.row
        obtain ⟨qo, ko, rfl, hos⟩ := own_slice hI.ops
        have hp : O (.returned (.tuple #[.slice qc X.length kc, .bool true])) wr := by
          rw [← unhide hO]
          obtain ⟨g, rfl, hg1, hg2, _⟩ := hcs 0 (by omega)
          refine ⟨hI.below, Or.inl ⟨?_, g, kc, fs, ms, ?_, hg1, ?_, ?_, ?_, ?_⟩⟩
          · rw [hI.fm, List.drop_of_length_le (by omega)]; rfl
          · rw [← eil]
          · rw [← eil]; exact hI.row
          · rw [← eil]; exact hI.fl
          · rw [← eil]; exact hI.rd
          · intro j hj; exact hI.fn j hj (by omega)
        clear hcs hos hI eil
        go_wp2
        exact hp
      · obtain ⟨qc, kc, rfl, hcs⟩ := own_slice hI.row
        obtain ⟨qo, ko, rfl, hos⟩ := own_slice hI.ops
        have hp : O (.returned (.tuple #[.slice qc X.length kc, .bool false])) wr := by
          rw [← unhide hO]
          refine ⟨hI.below, Or.inr ⟨?_, _, _, _, rfl⟩⟩
          rw [hI.fm, List.drop_of_length_le (by omega), Sp.fmd]
          exact decide_eq_false (fun e => h0 (List.eq_nil_of_length_eq_zero (by omega)))
        have hq : ((op.length : Int) == 0) = false := beq_eq_false_iff_ne.2 (fun e => h0 (List.eq_nil_of_length_eq_zero (by omega)))
        clear hcs hos hI eil
        go_wp2
        exact hp
end Go.Proofs.YteflnddphpjahaaDoor
