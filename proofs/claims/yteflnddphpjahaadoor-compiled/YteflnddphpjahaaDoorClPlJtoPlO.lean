import Derived.Test.YteflnddphpjahaaDoorClPlAtoPlI
import Derived.Lib.MapLaws
import Derived.Laws.Cover4
import Derived.Laws.Runes
import Derived.Laws.IdiomStrings
import Derived.Lib.SplitLaws
/-
  Plain facts: runes of a valid text, and lines of it (no program in this text).
-/
set_option linter.unusedVariables false
set_option linter.unusedSimpArgs false
namespace Go.Proofs.YteflnddphpjahaaDoor.Sp
open Go

/-- n bytes from a place on. -/
def bytesAt (s : ByteArray) (i n : Nat) : List UInt8 := (s.data.toList.drop i).take n
theorem at_get (s : ByteArray) (i : Nat) (h : i < s.size) : s.data.toList[i]'(by simpa using h) = UInt8.ofNat (bt s i) := by
  have := bt_of s i h
  apply UInt8.toNat_inj.1
  rw [show (s.data.toList[i]'(by simpa using h)) = s[i]'h from rfl, this]
  have := bt_lt s i
  simp; omega
theorem bytesAt_succ (s : ByteArray) (i n : Nat) (h : i < s.size) : bytesAt s i (n + 1) = UInt8.ofNat (bt s i) :: bytesAt s (i + 1) n := by
  unfold bytesAt
  rw [List.drop_eq_getElem_cons (by simpa using h), List.take_succ_cons, at_get s i h]
theorem bytesAt_zero (s : ByteArray) (i : Nat) : bytesAt s i 0 = [] := by simp [bytesAt]

/-- A rune that was read encodes to its bytes. -/
theorem enc_dec {s : ByteArray} {i : Nat} (hi : i < s.size) (hv : ¬ Utf8.decode s i = (65533, 1)) : (Utf8.encode ((Utf8.decode s i).1 : Int)).data.toList = bytesAt s i (Utf8.decode s i).2 := by
  have hb0 := bt_lt s i
  have hb1 := bt_lt s (i + 1)
  have hb2 := bt_lt s (i + 2)
  have hb3 := bt_lt s (i + 3)
  rw [dec] at hv ⊢
  have i2 : i + 1 + 1 = i + 2 := by omega
  have i3 : i + 2 + 1 = i + 3 := by omega
  rcases Lib.decodeN_shape (s.size - i) (bt s i) (bt s (i + 1)) (bt s (i + 2)) (bt s (i + 3)) with ⟨c, e⟩ | ⟨c1, c2, c3, cv, e⟩ | ⟨c1, c2, c3, c4, cv, cs, e⟩ | ⟨c1, c2, c3, c4, c5, cv, cw, e⟩ | e
  · rw [e, bytesAt_succ _ _ _ hi, bytesAt_zero]
    have hval : Utf8.valid ((bt s i : Nat) : Int) = true := by rw [validRune_eq]; unfold validRune; exact decide_eq_true (by omega)
    simp only [Utf8.encode, hval, if_true, Int.toNat_natCast, c]
  · rw [e, bytesAt_succ _ _ _ hi, bytesAt_succ _ _ _ (by omega), bytesAt_zero]
    generalize hc : bt s i % 32 * 64 + bt s (i + 1) % 64 = r at *
    have hval : Utf8.valid ((r : Nat) : Int) = true := by rw [validRune_eq]; unfold validRune; exact decide_eq_true (by omega)
    simp only [Utf8.encode, hval, if_true, Int.toNat_natCast]
    rw [if_neg (by omega), if_pos (by omega)]
    simp only
    rw [show (192 + r / 64) = bt s i from by omega, show (128 + r % 64) = bt s (i + 1) from by omega]
  · rw [e, bytesAt_succ _ _ _ hi, bytesAt_succ _ _ _ (by omega), bytesAt_succ _ _ _ (by omega), bytesAt_zero, i2]
    generalize hc : bt s i % 16 * 4096 + bt s (i + 1) % 64 * 64 + bt s (i + 2) % 64 = r at *
    have hval : Utf8.valid ((r : Nat) : Int) = true := by rw [validRune_eq]; unfold validRune; exact decide_eq_true (by omega)
    simp only [Utf8.encode, hval, if_true, Int.toNat_natCast]
    rw [if_neg (by omega), if_neg (by omega), if_pos (by omega)]
    simp only
    rw [show (224 + r / 4096) = bt s i from by omega, show (128 + r / 64 % 64) = bt s (i + 1) from by omega, show (128 + r % 64) = bt s (i + 2) from by omega]
  · rw [e, bytesAt_succ _ _ _ hi, bytesAt_succ _ _ _ (by omega), bytesAt_succ _ _ _ (by omega), i2, bytesAt_succ _ _ _ (by omega), bytesAt_zero, i3]
    generalize hc : bt s i % 8 * 262144 + bt s (i + 1) % 64 * 4096 + bt s (i + 2) % 64 * 64 + bt s (i + 3) % 64 = r at *
    have hval : Utf8.valid ((r : Nat) : Int) = true := by rw [validRune_eq]; unfold validRune; exact decide_eq_true (by omega)
    simp only [Utf8.encode, hval, if_true, Int.toNat_natCast]
    rw [if_neg (by omega), if_neg (by omega), if_neg (by omega)]
    simp only
    rw [show (240 + r / 262144) = bt s i from by omega, show (128 + r / 4096 % 64) = bt s (i + 1) from by omega, show (128 + r / 64 % 64) = bt s (i + 2) from by omega, show (128 + r % 64) = bt s (i + 3) from by omega]
  · exact absurd e hv

/-- From place i on the text is valid. -/
def V (s : ByteArray) (i : Nat) : Prop := ∀ f, badFrom s f i = none
theorem bad_fuel (s : ByteArray) : ∀ (f g i : Nat), s.size - i ≤ f → badFrom s f i = none → badFrom s g i = none := by
  intro f
  induction f with
  | zero =>
    intro g i hf _
    cases g with
    | zero => rfl
    | succ g => simp only [badFrom]; rw [if_neg (by omega)]
  | succ f ih =>
    intro g i hf h
    cases g with
    | zero => rfl
    | succ g =>
      simp only [badFrom] at h ⊢
      by_cases hi : i < s.size
      · rw [if_pos hi] at h ⊢
        by_cases hd : Utf8.decode s i = (65533, 1)
        · rw [if_pos hd] at h; cases h
        · rw [if_neg hd] at h ⊢
          have := dec_size hi
          exact ih g _ (by omega) h
      · rw [if_neg hi]
theorem V_of_bad {s : ByteArray} (h : bad s = none) : V s 0 := fun f => bad_fuel s s.size f 0 (by omega) h
theorem bad_of_V {s : ByteArray} (h : V s 0) : bad s = none := h _
theorem V_dec {s : ByteArray} {i : Nat} (h : V s i) (hi : i < s.size) : ¬ Utf8.decode s i = (65533, 1) ∧ V s (i + (Utf8.decode s i).2) := by
  have h1 := h 1
  simp only [badFrom, if_pos hi] at h1
  have hd : ¬ Utf8.decode s i = (65533, 1) := fun e => by rw [if_pos e] at h1; cases h1
  refine ⟨hd, fun f => ?_⟩
  have h2 := h (f + 1)
  simp only [badFrom, if_pos hi, if_neg hd] at h2
  exact h2
theorem V_end {s : ByteArray} {i : Nat} (hi : s.size ≤ i) : V s i := fun f => by
  cases f with
  | zero => rfl
  | succ f => simp only [badFrom]; rw [if_neg (by omega)]
/-- The bytes behind a rune's first one go on with it. -/
theorem dec_cont {s : ByteArray} {i j : Nat} (hi : i < s.size) (hj : i < j) (hjw : j < i + (Utf8.decode s i).2) : 128 ≤ bt s j ∧ bt s j < 192 := by
  have hb1 := bt_lt s (i + 1)
  have hb2 := bt_lt s (i + 2)
  have hb3 := bt_lt s (i + 3)
  rw [dec] at hjw
  rcases Lib.decodeN_shape (s.size - i) (bt s i) (bt s (i + 1)) (bt s (i + 2)) (bt s (i + 3)) with ⟨c, e⟩ | ⟨c1, c2, c3, cv, e⟩ | ⟨c1, c2, c3, c4, cv, cs, e⟩ | ⟨c1, c2, c3, c4, c5, cv, cw, e⟩ | e
  · rw [e] at hjw; simp only at hjw; omega
  · rw [e] at hjw; simp only at hjw
    obtain rfl : j = i + 1 := by omega
    omega
  · rw [e] at hjw; simp only at hjw
    obtain rfl | rfl : j = i + 1 ∨ j = i + 2 := by omega
    · omega
    · omega
  · rw [e] at hjw; simp only at hjw
    obtain rfl | rfl | rfl : j = i + 1 ∨ j = i + 2 ∨ j = i + 3 := by omega
    · omega
    · omega
    · omega
  · rw [e] at hjw; simp only at hjw; omega
/-- A byte that goes on with no rune is a rune's first one. -/
theorem V_at {s : ByteArray} : ∀ (n i j : Nat), j - i ≤ n → V s i → i ≤ j → j < s.size → bt s j < 128 → V s j := by
  intro n
  induction n with
  | zero => intro i j hn h hij _ _; obtain rfl : i = j := by omega
            exact h
  | succ n ih =>
    intro i j hn h hij hj hb
    by_cases e : i = j
    · rw [← e]; exact h
    · have hi : i < s.size := by omega
      obtain ⟨_, h2⟩ := V_dec h hi
      have hsz := dec_size hi
      refine ih _ j (by omega) h2 ?_ hj hb
      apply Decidable.byContradiction
      intro hlt
      have := dec_cont hi (j := j) (by omega) (by omega)
      omega
end Go.Proofs.YteflnddphpjahaaDoor.Sp
/-
  Plain facts: the runes of a line, and what they say (no program in this text).
-/
set_option linter.unusedVariables false
set_option linter.unusedSimpArgs false
namespace Go.Proofs.YteflnddphpjahaaDoor.Sp
open Go

/-- The runes from a place on. -/
def rl (s : ByteArray) : Nat → Nat → List Int
  | 0, _ => []
  | f + 1, i => if i < s.size then ((Utf8.decode s i).1 : Int) :: rl s f (i + (Utf8.decode s i).2) else []
def rs (s : ByteArray) (i : Nat) : List Int := rl s (s.size - i) i
theorem rl_fuel (s : ByteArray) : ∀ (f g i : Nat), s.size - i ≤ f → s.size - i ≤ g → rl s f i = rl s g i := by
  intro f
  induction f with
  | zero =>
    intro g i hf hg
    cases g with
    | zero => rfl
    | succ g => simp only [rl]; rw [if_neg (by omega)]
  | succ f ih =>
    intro g i hf hg
    by_cases hi : i < s.size
    · cases g with
      | zero => omega
      | succ g =>
        have := dec_size hi
        simp only [rl, if_pos hi]
        rw [ih g _ (by omega) (by omega)]
    · cases g with
      | zero => simp only [rl]; rw [if_neg hi]
      | succ g => simp only [rl]; rw [if_neg hi, if_neg hi]
theorem rs_nil {s : ByteArray} {i : Nat} (h : s.size ≤ i) : rs s i = [] := by
  unfold rs; rw [show s.size - i = 0 from by omega]; rfl
theorem rs_cons {s : ByteArray} {i : Nat} (h : i < s.size) : rs s i = ((Utf8.decode s i).1 : Int) :: rs s (i + (Utf8.decode s i).2) := by
  unfold rs
  have := dec_size h
  rw [rl_fuel s (s.size - i) (s.size - i + 1) i (by omega) (by omega)]
  simp only [rl, if_pos h]
  rw [rl_fuel s _ (s.size - (i + (Utf8.decode s i).2)) _ (by omega) (by omega)]
theorem runesFrom_eq (s : ByteArray) : ∀ (f i : Nat) (acc : Array Value), Conv.runesFrom s f i acc = acc ++ ((rl s f i).map (Value.int .i32)).toArray := by
  intro f
  induction f with
  | zero => intro i acc; simp [Conv.runesFrom, rl]
  | succ f ih =>
    intro i acc
    simp only [Conv.runesFrom, rl]
    by_cases h : i < s.size
    · rw [if_pos h, if_pos h, ih]
      apply Array.ext'
      simp
    · rw [if_neg h, if_neg h]; simp
theorem runes_eq (s : ByteArray) : Conv.runesFrom s s.size 0 #[] = ((rs s 0).map (Value.int .i32)).toArray := by
  rw [runesFrom_eq]; simp [rs]
theorem rs_len (s : ByteArray) : ∀ (n i : Nat), s.size - i ≤ n → (rs s i).length ≤ s.size - i := by
  intro n
  induction n with
  | zero => intro i h; rw [rs_nil (by omega)]; simp
  | succ n ih =>
    intro i h
    by_cases hi : i < s.size
    · have := dec_size hi
      rw [rs_cons hi]
      have := ih (i + (Utf8.decode s i).2) (by omega)
      simp only [List.length_cons]; omega
    · rw [rs_nil (by omega)]; simp
theorem rs_bd (s : ByteArray) : ∀ (n i : Nat), s.size - i ≤ n → ∀ r ∈ rs s i, 0 ≤ r ∧ r ≤ 1114111 := by
  intro n
  induction n with
  | zero => intro i h r hr; rw [rs_nil (by omega)] at hr; cases hr
  | succ n ih =>
    intro i h r hr
    by_cases hi : i < s.size
    · have := dec_size hi
      have hb := dec_bd s i
      rw [rs_cons hi] at hr
      rcases List.mem_cons.1 hr with rfl | hr
      · omega
      · exact ih _ (by omega) r hr
    · rw [rs_nil (by omega)] at hr; cases hr

theorem foldl_enc (ns : List Int) : ∀ a : ByteArray, (ns.foldl (fun r n => r ++ Utf8.encode n) a).data.toList = a.data.toList ++ (ns.foldl (fun r n => r ++ Utf8.encode n) ByteArray.empty).data.toList := by
  induction ns with
  | nil => intro a; simp
  | cons n ns ih =>
    intro a
    simp only [List.foldl_cons]
    rw [ih (a ++ Utf8.encode n), ih (ByteArray.empty ++ Utf8.encode n)]
    simp [ByteArray.data_append]
theorem bytes_cons (n : Int) (ns : List Int) : (runesBytes (n :: ns)).data.toList = (Utf8.encode n).data.toList ++ (runesBytes ns).data.toList := by
  unfold runesBytes
  simp only [List.foldl_cons]
  rw [foldl_enc ns (ByteArray.empty ++ Utf8.encode n)]
  simp [ByteArray.data_append]
/-- The runes' bytes are the text's. -/
theorem bytes_rs {s : ByteArray} : ∀ (n i : Nat), s.size - i ≤ n → V s i → (runesBytes (rs s i)).data.toList = s.data.toList.drop i := by
  intro n
  induction n with
  | zero =>
    intro i h _
    rw [rs_nil (by omega), List.drop_of_length_le (by simp; have : s.data.size = s.size := rfl; omega)]; rfl
  | succ n ih =>
    intro i h hV
    by_cases hi : i < s.size
    · obtain ⟨hd, hV'⟩ := V_dec hV hi
      have hsz := dec_size hi
      rw [rs_cons hi, bytes_cons, ih _ (by omega) hV', enc_dec hi hd]
      unfold bytesAt
      rw [← List.drop_drop, List.take_append_drop]
    · rw [rs_nil (by omega), List.drop_of_length_le (by simp; have : s.data.size = s.size := rfl; omega)]; rfl
theorem extract_drop (s : ByteArray) (i : Nat) : (s.extract i s.size).data.toList = s.data.toList.drop i := by
  rw [ByteArray.data_extract, Array.toList_extract]
  show (s.data.toList.drop i).take (s.data.size - i) = _
  rw [List.take_of_length_le (by simp)]

/-- A rune is a blank just where its byte is one. -/
theorem dec_low {s : ByteArray} {i : Nat} (c : Nat) (hc : c < 128) (hi : i < s.size) : ((Utf8.decode s i).1 : Int) = c ↔ bt s i = c := by
  have hb0 := bt_lt s i
  have hb1 := bt_lt s (i + 1)
  rw [dec]
  rcases Lib.decodeN_shape (s.size - i) (bt s i) (bt s (i + 1)) (bt s (i + 2)) (bt s (i + 3)) with ⟨_, e⟩ | ⟨_, _, _, _, e⟩ | ⟨_, _, _, _, _, _, e⟩ | ⟨_, _, _, _, _, _, _, e⟩ | e
  · rw [e]; simp only; omega
  · rw [e]; simp only; omega
  · rw [e]; simp only; omega
  · rw [e]; simp only; omega
  · rw [e]; simp only
    constructor
    · intro h; omega
    · intro h
      have hx : bt s i < 128 := by omega
      unfold Lib.decodeN at e
      rw [if_pos hx] at e
      have := congrArg Prod.fst e
      simp only at this; omega
theorem low32 {s : ByteArray} {i : Nat} (hi : i < s.size) : ((Utf8.decode s i).1 : Int) = 32 ↔ bt s i = 32 := by
  have := dec_low (s := s) (i := i) 32 (by omega) hi
  omega
theorem low62 {s : ByteArray} {i : Nat} (hi : i < s.size) : ((Utf8.decode s i).1 : Int) = 62 ↔ bt s i = 62 := by
  have := dec_low (s := s) (i := i) 62 (by omega) hi
  omega
theorem nm_rs {s : ByteArray} {i : Nat} (hV : V s i) (hi : i < s.size) : nm s i = if ((Utf8.decode s i).1 : Int) = 32 ∨ ((Utf8.decode s i).1 : Int) = 62 then none else some (((Utf8.decode s i).1 : Int), i + (Utf8.decode s i).2) := by
  have h32 := low32 hi
  have h62 := low62 hi
  have hr := ref_of_good (V_dec hV hi).1
  unfold nm
  by_cases h : ((Utf8.decode s i).1 : Int) = 32 ∨ ((Utf8.decode s i).1 : Int) = 62
  · rw [if_pos h, if_neg]
    rintro ⟨_, a, b⟩
    rcases h with h | h
    · exact a (h32.1 h)
    · exact b (h62.1 h)
  · rw [if_neg h, if_pos ⟨hi, fun e => h (Or.inl (h32.2 e)), fun e => h (Or.inr (h62.2 e))⟩, hr]
    simp
def numOf (t : List Int) : Option Int := number (runesBytes t).data.toList
/-- What the runes of a line say. -/
def lnOf (r : List Int) : Option Ln :=
  match r with
  | a :: b :: t =>
    if a = 32 ∨ a = 62 then none
    else if b = 32 then (numOf t).map fun n => ⟨false, a, 0, n⟩
    else if b = 62 then
      match t with
      | c :: d :: u => if c = 32 ∨ c = 62 then none else if d = 32 then (numOf u).map fun n => ⟨true, a, c, n⟩ else none
      | _ => none
    else none
  | _ => none
theorem fin_rs {s : ByteArray} {e : Bool} {a b : Int} {j : Nat} (hV : V s j) : fin s e a b j = match rs s j with
    | d :: u => if d = 32 then (numOf u).map fun n => ⟨e, a, b, n⟩ else none
    | [] => none := by
  unfold fin
  by_cases hj : j < s.size
  · rw [rs_cons hj]
    simp only
    have h32 := low32 hj
    by_cases h : bt s j = 32
    · rw [if_pos ⟨hj, h⟩, if_pos (h32.2 h)]
      have hw : (Utf8.decode s j).2 = 1 := by
        rw [dec]; unfold Lib.decodeN; rw [if_pos (by omega)]
      obtain ⟨_, hV'⟩ := V_dec hV hj
      rw [hw] at hV' ⊢
      unfold numOf
      rw [bytes_rs _ _ (Nat.le_refl _) hV', extract_drop]
    · rw [if_neg (fun x => h x.2), if_neg (fun x => h (h32.1 x))]
  · rw [if_neg (fun x => hj x.1), rs_nil (by omega)]
theorem line_rs {s : ByteArray} (hV : V s 0) : lineOf s = lnOf (rs s 0) := by
  unfold lineOf
  by_cases h0 : 0 < s.size
  · rw [nm_rs hV h0, rs_cons h0]
    obtain ⟨_, hV1⟩ := V_dec hV h0
    rw [Nat.zero_add] at hV1 ⊢
    generalize ((Utf8.decode s 0).1 : Int) = a
    generalize (Utf8.decode s 0).2 = j at hV1
    by_cases ha : a = 32 ∨ a = 62
    · rw [if_pos ha]
      cases hr : rs s j with
      | nil => rfl
      | cons b t => simp only [lnOf, if_pos ha]
    · rw [if_neg ha]
      simp only
      by_cases hj : j < s.size
      · have h32 := low32 hj
        have h62 := low62 hj
        obtain ⟨_, hV2⟩ := V_dec hV1 hj
        by_cases hb : bt s j = 62
        · have hw : (Utf8.decode s j).2 = 1 := by rw [dec]; unfold Lib.decodeN; rw [if_pos (by omega)]
          rw [if_pos ⟨hj, hb⟩, rs_cons hj]
          have hr62 := h62.2 hb
          rw [hw] at hV2 ⊢
          generalize ((Utf8.decode s j).1 : Int) = b at hr62
          subst hr62
          simp only [lnOf, if_neg ha]
          rw [if_neg (by decide), if_pos trivial]
          by_cases hk : j + 1 < s.size
          · rw [nm_rs hV2 hk, rs_cons hk]
            obtain ⟨_, hV3⟩ := V_dec hV2 hk
            generalize ((Utf8.decode s (j + 1)).1 : Int) = c
            generalize j + 1 + (Utf8.decode s (j + 1)).2 = k at hV3
            by_cases hc : c = 32 ∨ c = 62
            · rw [if_pos hc]
              cases hrk : rs s k with
              | nil => rfl
              | cons d u => simp only [if_pos hc]
            · rw [if_neg hc]
              simp only
              rw [fin_rs hV3]
              cases hrk : rs s k with
              | nil => rfl
              | cons d u => simp only [if_neg hc]
          · have hn : nm s (j + 1) = none := by unfold nm; rw [if_neg (fun x => hk x.1)]
            rw [hn, rs_nil (by omega)]
        · rw [if_neg (fun x => hb x.2), fin_rs hV1]
          rw [rs_cons hj]
          have hr62 : ¬ ((Utf8.decode s j).1 : Int) = 62 := fun x => hb (h62.1 x)
          generalize ((Utf8.decode s j).1 : Int) = b at hr62
          simp only [lnOf, if_neg ha]
          by_cases hb32 : b = 32
          · rw [if_pos hb32, if_pos hb32]
          · rw [if_neg hb32, if_neg hb32, if_neg hr62]
      · rw [if_neg (fun x => hj x.1), fin_rs hV1, rs_nil (by omega)]
        rfl
  · have hn : nm s 0 = none := by unfold nm; rw [if_neg (fun x => h0 x.1)]
    rw [hn, rs_nil (by omega)]
    rfl
end Go.Proofs.YteflnddphpjahaaDoor.Sp
/-
  Plain facts: the lines of a valid text are valid; the two ways of splitting are one (no program in this text).
-/
set_option linter.unusedVariables false
set_option linter.unusedSimpArgs false
namespace Go.Proofs.YteflnddphpjahaaDoor.Sp
open Go

theorem size_ex (s : ByteArray) (a b : Nat) (hb : b ≤ s.size) : (s.extract a b).size = b - a := by simp; omega
theorem bt_ex (s : ByteArray) (a b p : Nat) (hb : b ≤ s.size) (hp : a + p < b) : bt (s.extract a b) p = bt s (a + p) := by
  have h1 : p < (s.extract a b).size := by rw [size_ex s a b hb]; omega
  rw [← bt_of _ _ h1, ← bt_of s (a + p) (by omega)]
  congr 1
  exact ByteArray.getElem_extract _
/-- Decoding hangs on the bytes of the rune alone. -/
theorem decN_same {n n' b0 b1 b2 b3 c1 c2 c3 w r : Nat} (h : Lib.decodeN n b0 b1 b2 b3 = (r, w)) (hv : ¬ (r, w) = (65533, 1)) (hn : w ≤ n') (e1 : 1 < w → c1 = b1) (e2 : 2 < w → c2 = b2) (e3 : 3 < w → c3 = b3) : Lib.decodeN n' b0 c1 c2 c3 = (r, w) := by
  rcases Lib.decodeN_shape n b0 b1 b2 b3 with ⟨c, e⟩ | ⟨q1, q2, q3, cv, e⟩ | ⟨q1, q2, q3, q4, cv, cs, e⟩ | ⟨q1, q2, q3, q4, q5, cv, cw, e⟩ | e
  · rw [e] at h; injection h with h1 h2; subst h1 h2
    unfold Lib.decodeN; rw [if_pos c]
  · rw [e] at h; injection h with h1 h2; subst h1 h2
    rw [e1 (by omega)]
    unfold Lib.decodeN; rw [if_neg (by omega), if_pos (by omega), if_pos (by omega)]
  · rw [e] at h; injection h with h1 h2; subst h1 h2
    rw [e1 (by omega), e2 (by omega)]
    unfold Lib.decodeN; rw [if_neg (by omega), if_neg (by omega), if_pos (by omega), if_pos (by omega)]
  · rw [e] at h; injection h with h1 h2; subst h1 h2
    rw [e1 (by omega), e2 (by omega), e3 (by omega)]
    unfold Lib.decodeN; rw [if_neg (by omega), if_neg (by omega), if_neg (by omega), if_pos (by omega), if_pos (by omega)]
  · rw [e] at h; exact absurd h.symm hv
theorem dec_ex {s : ByteArray} {a b p : Nat} (hb : b ≤ s.size) (hp : a + p < b) (hV : V s (a + p)) (hw : a + p + (Utf8.decode s (a + p)).2 ≤ b) : Utf8.decode (s.extract a b) p = Utf8.decode s (a + p) := by
  obtain ⟨hd, _⟩ := V_dec hV (by omega)
  have hs := dec_size (s := s) (i := a + p) (by omega)
  rw [dec (s.extract a b) p]
  have h0 := bt_ex s a b p hb hp
  rw [h0]
  have h := dec s (a + p)
  refine (decN_same (r := (Utf8.decode s (a + p)).1) (w := (Utf8.decode s (a + p)).2) h.symm hd ?_ ?_ ?_ ?_).trans rfl
  · rw [size_ex s a b hb]; omega
  · intro hw1; exact bt_ex s a b (p + 1) hb (by omega)
  · intro hw1; exact bt_ex s a b (p + 2) hb (by omega)
  · intro hw1; exact bt_ex s a b (p + 3) hb (by omega)
theorem V_ex {s : ByteArray} {a b : Nat} (hb : b ≤ s.size) (hend : b = s.size ∨ bt s b < 128) : ∀ (n p : Nat), b - (a + p) ≤ n → V s (a + p) → V (s.extract a b) p := by
  intro n
  induction n with
  | zero => intro p hn _; exact V_end (by rw [size_ex s a b hb]; omega)
  | succ n ih =>
    intro p hn hV f
    by_cases hp : a + p < b
    · obtain ⟨hd, hV'⟩ := V_dec hV (by omega)
      have hs := dec_size (s := s) (i := a + p) (by omega)
      have hw : a + p + (Utf8.decode s (a + p)).2 ≤ b := by
        apply Decidable.byContradiction
        intro hlt
        rcases hend with he | he
        · omega
        · have := dec_cont (s := s) (i := a + p) (j := b) (by omega) (by omega) (by omega)
          omega
      cases f with
      | zero => rfl
      | succ f =>
        simp only [badFrom]
        rw [if_pos (by rw [size_ex s a b hb]; omega), dec_ex hb hp hV hw, if_neg hd]
        refine ih _ (by omega) ?_ f
        rw [← Nat.add_assoc]; exact hV'
    · exact V_end (by rw [size_ex s a b hb]; omega) f
theorem cuts_V {s : ByteArray} (hV : V s 0) : ∀ k, k ≤ s.size + 1 → ((cuts s 10 k).1 ≤ s.size → V s (cuts s 10 k).1) ∧ (∀ x ∈ (cuts s 10 k).2, V x 0) := by
  intro k
  induction k with
  | zero => intro _; exact ⟨fun _ => hV, by simp [cuts]⟩
  | succ k ih =>
    intro hk
    obtain ⟨h1, h2⟩ := ih (by omega)
    have hcb := cuts_bd s 10 k
    by_cases h : k = s.size ∨ bt s k = 10
    · rw [cuts_yes h]
      have hx : V (s.extract (cuts s 10 k).1 k) 0 := by
        refine V_ex (by omega) (by rcases h with h | h; exact Or.inl h; exact Or.inr (by omega)) _ 0 (Nat.le_refl _) ?_
        rw [Nat.add_zero]; exact h1 (by omega)
      refine ⟨fun hle => ?_, fun x hx' => ?_⟩
      · simp only at hle
        have hb : bt s k = 10 := by rcases h with h | h; exact absurd h (by omega); exact h
        have hVk := V_at k 0 k (by omega) hV (by omega) (by omega) (by omega)
        obtain ⟨_, h3⟩ := V_dec hVk (by omega)
        have hw : (Utf8.decode s k).2 = 1 := by rw [dec]; unfold Lib.decodeN; rw [if_pos (by omega)]
        rw [hw] at h3; exact h3
      · rcases List.mem_append.1 hx' with hx' | hx'
        · exact h2 x hx'
        · rw [List.mem_singleton.1 hx']; exact hx
    · rw [cuts_no h]; exact ⟨h1, h2⟩
theorem split_V {s : ByteArray} (hV : V s 0) : ∀ x ∈ split s 10, V x 0 := (cuts_V hV (s.size + 1) (Nat.le_refl _)).2

/-- A list of bytes, split at each c. -/
def spl (c : UInt8) : List UInt8 → List (List UInt8)
  | [] => [[]]
  | b :: l => if b = c then [] :: spl c l else
    match spl c l with
    | [] => [[b]]
    | h :: t => (b :: h) :: t
theorem index_cons_eq (c : UInt8) (l : List UInt8) : Lib.index (c :: l) [c] = 0 := by
  simp [Lib.index, List.isPrefixOf]
theorem index_cons_ne {b c : UInt8} (h : ¬ b = c) (l : List UInt8) : Lib.index (b :: l) [c] = if Lib.index l [c] == -1 then -1 else Lib.index l [c] + 1 := by
  have hp : ([c] : List UInt8).isPrefixOf (b :: l) = false := by simp [List.isPrefixOf]; exact fun e => h e.symm
  rw [Lib.index, hp]; rfl
theorem splitK_spl (c : UInt8) : ∀ l : List UInt8, Lib.splitK [c] 0 (Lib.count l [c]) l = spl c l := by
  intro l
  induction l with
  | nil => rfl
  | cons b l ih =>
    by_cases h : b = c
    · subst h
      rw [Lib.count_cons_eq, Nat.add_comm 1]
      simp only [Lib.splitK, index_cons_eq, spl, if_true]
      rw [if_neg (by decide)]
      simpa using ih
    · rw [Lib.count_cons_ne b c l h]
      simp only [spl, if_neg h]
      rw [← ih]
      cases hk : Lib.count l [c] with
      | zero => rfl
      | succ k =>
        simp only [Lib.splitK, index_cons_ne h]
        have hge := Lib.index_ge l [c]
        by_cases hi : Lib.index l [c] = -1
        · rw [hi]; rfl
        · have e1 : (Lib.index l [c] == -1) = false := beq_eq_false_iff_ne.2 hi
          rw [e1]
          simp only [Bool.false_eq_true, if_false]
          have e2 : (Lib.index l [c] + 1 == -1) = false := beq_eq_false_iff_ne.2 (by omega)
          rw [e2]
          simp only [Bool.false_eq_true, if_false]
          have e3 : (Lib.index l [c] + 1).toNat = (Lib.index l [c]).toNat + 1 := by omega
          rw [e3]
          simp
theorem spl_ne (c : UInt8) (l : List UInt8) : ∃ h t, spl c l = h :: t := by
  cases l with
  | nil => exact ⟨_, _, rfl⟩
  | cons b l =>
    simp only [spl]
    split
    · exact ⟨_, _, rfl⟩
    · split <;> exact ⟨_, _, rfl⟩
theorem ex_list (s : ByteArray) (a b : Nat) : (s.extract a b).data.toList = (s.data.toList.drop a).take (b - a) := by
  rw [ByteArray.data_extract, Array.toList_extract]
/-- What is yet to come, with what is pending ahead of it. -/
def pend (c : UInt8) (p l : List UInt8) : List (List UInt8) := match spl c l with
  | [] => []
  | h :: t => (p ++ h) :: t
theorem cuts_spl (s : ByteArray) (c : UInt8) : ∀ k, k ≤ s.size → (cuts s c.toNat k).2.map (·.data.toList) ++ pend c (s.extract (cuts s c.toNat k).1 k).data.toList (s.data.toList.drop k) = spl c s.data.toList := by
  intro k
  induction k with
  | zero =>
    intro _
    obtain ⟨h, t, e⟩ := spl_ne c s.data.toList
    simp only [cuts, pend, ex_list, List.map_nil, List.nil_append, List.drop_zero, Nat.sub_zero, List.take_zero, e]
  | succ k ih =>
    intro hk
    have hl : k < s.data.toList.length := by rw [Array.length_toList]; show k < s.size; omega
    have hi := ih (by omega)
    have hcb := cuts_bd s c.toNat k
    have hg : s.data.toList[k] = UInt8.ofNat (bt s k) := at_get s k (by omega)
    rw [List.drop_eq_getElem_cons hl] at hi
    by_cases h : k = s.size ∨ bt s k = c.toNat
    · have hb : bt s k = c.toNat := by rcases h with h | h; exact absurd h (by omega); exact h
      have hc : s.data.toList[k] = c := by rw [hg, hb]; simp
      rw [cuts_yes h]
      rw [hc] at hi
      obtain ⟨h', t, e⟩ := spl_ne c (s.data.toList.drop (k + 1))
      simp only [pend, spl, if_true, List.append_nil] at hi
      simp only [pend, e, ex_list, Nat.sub_self, List.take_zero, List.nil_append, List.map_append, List.map_cons, List.map_nil, List.append_assoc, List.cons_append]
      rw [e] at hi
      simpa [ex_list] using hi
    · have hb : ¬ s.data.toList[k] = c := fun e => by
        rw [hg] at e
        have := congrArg UInt8.toNat e
        have hlt := bt_lt s k
        simp at this
        exact h (Or.inr (by omega))
      rw [cuts_no h]
      obtain ⟨h', t, e⟩ := spl_ne c (s.data.toList.drop (k + 1))
      simp only [pend, spl, if_neg hb, e] at hi
      simp only [pend, e]
      rw [← hi]
      congr 2
      rw [ex_list, ex_list]
      have : k + 1 - (cuts s c.toNat k).1 = (k - (cuts s c.toNat k).1) + 1 := by omega
      rw [this, List.take_succ_eq_append_getElem (by rw [List.length_drop]; omega), List.append_assoc]
      congr 1
      simp only [List.getElem_drop, List.cons_append, List.nil_append]
      congr 2
      omega
theorem split_spl (s : ByteArray) (c : UInt8) : (split s c.toNat).map (·.data.toList) = spl c s.data.toList := by
  have h := cuts_spl s c s.size (Nat.le_refl _)
  unfold split
  rw [cuts_yes (Or.inl rfl)]
  rw [List.drop_of_length_le (by rw [Array.length_toList]; exact Nat.le_refl _)] at h
  simp only [pend, spl, List.append_nil] at h
  simp only [List.map_append, List.map_cons, List.map_nil]
  exact h
theorem list_inj : ∀ (a b : List ByteArray), a.map (·.data.toList) = b.map (·.data.toList) → a = b := by
  intro a
  induction a with
  | nil => intro b h; cases b with
    | nil => rfl
    | cons _ _ => simp at h
  | cons x a ih =>
    intro b h
    cases b with
    | nil => simp at h
    | cons y b =>
      simp only [List.map_cons, List.cons.injEq] at h
      have e : x = y := by apply ByteArray.ext; apply Array.ext'; exact h.1
      rw [e, ih b h.2]
/-- Go's Split and the document's are one. -/
theorem split_lib (s : ByteArray) : Lib.splitB ⟨#[10]⟩ 0 (Lib.countB s ⟨#[10]⟩) s = split s 10 := by
  apply list_inj
  rw [Lib.splitB_data]
  have := split_spl s 10
  rw [show (10 : UInt8).toNat = 10 from rfl] at this
  rw [this]
  exact splitK_spl 10 s.data.toList
theorem split_count (s : ByteArray) : Lib.countB s ⟨#[10]⟩ + 1 = (split s 10).length := by
  rw [← split_lib, Lib.splitB_all ⟨#[10]⟩ (by decide) 0 _ s rfl]
end Go.Proofs.YteflnddphpjahaaDoor.Sp
/-
  Plain facts: the program's lines, the empty ones too (no program in this text).
-/
set_option linter.unusedVariables false
set_option linter.unusedSimpArgs false
namespace Go.Proofs.YteflnddphpjahaaDoor.Sp
open Go

/-- A line of the text: nothing, or what it says; or it is wrong. -/
def plOf (x : ByteArray) : Option (Option Ln) := if x.size = 0 then some none else (lineOf x).map some
def plFrom : List ByteArray → Nat → List (Option Ln) → Except Nat (List (Option Ln))
  | [], _, P => .ok P
  | x :: r, k, P => match plOf x with
    | none => .error k
    | some p => plFrom r (k + 1) (P ++ [p])
theorem pl_end {ls : List ByteArray} {k : Nat} (h : ls.length ≤ k) (P : List (Option Ln)) : plFrom (ls.drop k) k P = .ok P := by
  rw [List.drop_of_length_le h]; rfl
theorem pl_none {ls : List ByteArray} {k : Nat} (h : k < ls.length) (P : List (Option Ln)) (he : plOf ls[k] = none) : plFrom (ls.drop k) k P = .error k := by
  rw [List.drop_eq_getElem_cons h]; simp only [plFrom, he]
theorem pl_some {ls : List ByteArray} {k : Nat} (h : k < ls.length) (P : List (Option Ln)) {p : Option Ln} (he : plOf ls[k] = some p) : plFrom (ls.drop k) k P = plFrom (ls.drop (k + 1)) (k + 1) (P ++ [p]) := by
  rw [List.drop_eq_getElem_cons h]; simp only [plFrom, he]

/-- The lines that say something; their numbers. -/
def says (P : List (Option Ln)) : List Ln := P.filterMap id
def numsFrom : List (Option Ln) → Nat → List Nat
  | [], _ => []
  | none :: r, k => numsFrom r (k + 1)
  | some _ :: r, k => k :: numsFrom r (k + 1)
theorem nums_append (P Q : List (Option Ln)) : ∀ k, numsFrom (P ++ Q) k = numsFrom P k ++ numsFrom Q (k + P.length) := by
  induction P with
  | nil => intro k; simp [numsFrom]
  | cons p t ih =>
    intro k
    cases p with
    | none => simp [numsFrom, ih, Nat.add_comm, Nat.add_left_comm]
    | some l => simp [numsFrom, ih, Nat.add_comm, Nat.add_left_comm]
theorem rd_pl : ∀ (ls : List ByteArray) (P : List (Option Ln)), rdFrom ls P.length (says P) (numsFrom P 0) = match plFrom ls P.length P with
    | .error k => .error (3, (k : Int))
    | .ok Q => .ok (says Q, numsFrom Q 0) := by
  intro ls
  induction ls with
  | nil => intro P; rfl
  | cons x r ih =>
    intro P
    by_cases hx : x.size = 0
    · have h1 : plOf x = some none := if_pos hx
      simp only [rdFrom, plFrom, h1, hx, if_true]
      have := ih (P ++ [none])
      simpa [says, nums_append, numsFrom] using this
    · cases hl : lineOf x with
      | none =>
        have h1 : plOf x = none := by unfold plOf; rw [if_neg hx, hl]; rfl
        simp only [rdFrom, plFrom, h1, hx, if_false, hl]
      | some l =>
        have h1 : plOf x = some (some l) := by unfold plOf; rw [if_neg hx, hl]; rfl
        simp only [rdFrom, plFrom, h1, hx, if_false, hl]
        have := ih (P ++ [some l])
        simpa [says, nums_append, numsFrom] using this
theorem rd_of_pl (ls : List ByteArray) : rdFrom ls 0 [] [] = match plFrom ls 0 [] with
    | .error k => .error (3, (k : Int))
    | .ok Q => .ok (says Q, numsFrom Q 0) := rd_pl ls []
theorem pl_len : ∀ (ls : List ByteArray) (k : Nat) (P Q : List (Option Ln)), plFrom ls k P = .ok Q → Q.length = P.length + ls.length := by
  intro ls
  induction ls with
  | nil => intro k P Q h; simp [plFrom] at h; subst h; simp
  | cons x r ih =>
    intro k P Q h
    simp only [plFrom] at h
    split at h
    · cases h
    · have := ih _ _ _ h; simp at this ⊢; omega
theorem rs_empty {x : ByteArray} : rs x 0 = [] ↔ x.size = 0 := by
  constructor
  · intro h
    apply Decidable.byContradiction
    intro h0
    rw [rs_cons (by omega)] at h
    cases h
  · intro h; exact rs_nil (by omega)
/-- The four cells of a program's line. -/
def pk (p : Option Ln) : Int := match p with | none => 0 | some l => if l.edge = true then 2 else 1
def pa (p : Option Ln) : Int := match p with | none => 0 | some l => l.frm
def pb (p : Option Ln) : Int := match p with | none => 0 | some l => if l.edge = true then l.to else 0
def pn (p : Option Ln) : Int := match p with | none => 0 | some l => l.n
end Go.Proofs.YteflnddphpjahaaDoor.Sp
/-
  Plain facts: a table by rising keys (no program in this text).
-/
set_option linter.unusedVariables false
set_option linter.unusedSimpArgs false
namespace Go.Proofs.YteflnddphpjahaaDoor.Sp
open Go

abbrev Tb := List (Int × Int)
def tlow (T : Tb) (a : Int) : Nat := (T.filter fun p => decide (p.1 < a)).length
def thas (T : Tb) (a : Int) : Bool := T.any fun p => p.1 == a
def tsorted (T : Tb) : Prop := T.Pairwise fun p q => p.1 < q.1
def tins (T : Tb) (a v : Int) : Tb := T.take (tlow T a) ++ (a, v) :: T.drop (tlow T a)

theorem tlow_le (T : Tb) (a : Int) : tlow T a ≤ T.length := List.length_filter_le _ _
theorem tlow_split (A B : Tb) (a : Int) (hA : ∀ p ∈ A, p.1 < a) (hB : ∀ p ∈ B, a ≤ p.1) : tlow (A ++ B) a = A.length := by
  unfold tlow
  rw [List.filter_append, List.filter_eq_self.2 (fun p hp => decide_eq_true (hA p hp)), List.filter_eq_nil_iff.2 (fun p hp => by simp; exact hB p hp)]
  simp
theorem tlow_at {T : Tb} {i : Nat} {a : Int} (hi : i ≤ T.length) (h1 : ∀ j (h : j < T.length), j < i → (T[j]).1 < a) (h2 : ∀ j (h : j < T.length), i ≤ j → a ≤ (T[j]).1) : tlow T a = i := by
  have e := List.take_append_drop i T
  rw [← e, tlow_split]
  · simp; omega
  · intro p hp
    obtain ⟨j, hj, rfl⟩ := List.mem_iff_getElem.1 hp
    simp at hj ⊢
    exact h1 j (by omega) (by omega)
  · intro p hp
    obtain ⟨j, hj, rfl⟩ := List.mem_iff_getElem.1 hp
    simp at hj ⊢
    exact h2 (i + j) (by omega) (by omega)
theorem tsorted_lt {T : Tb} (h : tsorted T) {i j : Nat} (hij : i < j) (hj : j < T.length) : (T[i]'(by omega)).1 < (T[j]).1 := List.pairwise_iff_getElem.1 h i j (by omega) hj hij
theorem tsorted_le {T : Tb} (h : tsorted T) {i j : Nat} (hij : i ≤ j) (hj : j < T.length) : (T[i]'(by omega)).1 ≤ (T[j]).1 := by
  rcases Nat.lt_or_eq_of_le hij with hl | rfl
  · exact Int.le_of_lt (tsorted_lt h hl hj)
  · exact Int.le_refl _
theorem tlow_sorted {T : Tb} (h : tsorted T) (a : Int) : (∀ j (hj : j < T.length), j < tlow T a ↔ (T[j]).1 < a) := by
  induction T with
  | nil => intro j hj; simp at hj
  | cons p t ih =>
    have ht : tsorted t := (List.pairwise_cons.1 h).2
    have hp := (List.pairwise_cons.1 h).1
    intro j hj
    by_cases hpa : p.1 < a
    · have e : tlow (p :: t) a = tlow t a + 1 := by unfold tlow; rw [List.filter_cons, if_pos (decide_eq_true hpa)]; rfl
      rw [e]
      cases j with
      | zero => simp [hpa]
      | succ j => simpa using ih ht j (by simpa using hj)
    · have e : tlow (p :: t) a = 0 := by
        have := tlow_split [] (p :: t) a (by simp) (by
          intro q hq
          rcases List.mem_cons.1 hq with rfl | hq
          · omega
          · have := hp q hq; omega)
        simpa using this
      rw [e]
      constructor
      · intro hh; omega
      · intro hh
        exfalso
        cases j with
        | zero => exact hpa hh
        | succ j => have := hp (t[j]'(by simpa using hj)) (List.getElem_mem _); simp at hh; omega
theorem thas_at {T : Tb} (h : tsorted T) (a : Int) : thas T a = true ↔ ∃ hj : tlow T a < T.length, (T[tlow T a]).1 = a := by
  constructor
  · intro ht
    obtain ⟨p, hp, he⟩ := List.any_eq_true.1 ht
    obtain ⟨j, hj, rfl⟩ := List.mem_iff_getElem.1 hp
    have he : (T[j]).1 = a := by simpa using he
    have hjl : tlow T a = j := tlow_at (by omega) (fun i hi hij => by have := tsorted_lt h hij hj; omega) (fun i hi hij => by have := tsorted_le h hij hi; omega)
    rw [hjl]; exact ⟨hj, he⟩
  · rintro ⟨hj, he⟩
    exact List.any_eq_true.2 ⟨T[tlow T a], List.getElem_mem _, by simpa using he⟩
theorem thas_not {T : Tb} (h : tsorted T) {a : Int} (hn : thas T a = false) (hj : tlow T a < T.length) : ¬ (T[tlow T a]).1 = a := fun e => by
  have := (thas_at h a).2 ⟨hj, e⟩
  rw [this] at hn; cases hn
theorem tins_sorted {T : Tb} (h : tsorted T) {a v : Int} (hn : thas T a = false) : tsorted (tins T a v) := by
  have hl := tlow_sorted h a
  unfold tins tsorted
  rw [List.pairwise_append]
  refine ⟨h.sublist (List.take_sublist _ _), List.pairwise_cons.2 ⟨?_, h.sublist (List.drop_sublist _ _)⟩, ?_⟩
  · intro q hq
    obtain ⟨j, hj, rfl⟩ := List.mem_iff_getElem.1 hq
    simp at hj ⊢
    have h1 := not_congr (hl (tlow T a + j) (by omega))
    have h2 : ¬ (T[tlow T a + j]).1 = a := by
      intro e
      have : thas T a = true := List.any_eq_true.2 ⟨T[tlow T a + j], List.getElem_mem _, by simpa using e⟩
      rw [this] at hn; cases hn
    have h3 := h1.1 (by omega)
    omega
  · intro p hp q hq
    obtain ⟨i, hi, rfl⟩ := List.mem_iff_getElem.1 hp
    have hi' : i < tlow T a ∧ i < T.length := by rw [List.length_take] at hi; omega
    have h1 := (hl i hi'.2).1 hi'.1
    rcases List.mem_cons.1 hq with rfl | hq
    · simpa using h1
    · obtain ⟨j, hj, rfl⟩ := List.mem_iff_getElem.1 hq
      simp at hj ⊢
      exact tsorted_lt h (by omega) (by omega)
theorem tins_len (T : Tb) (a v : Int) : (tins T a v).length = T.length + 1 := by
  have := tlow_le T a
  simp [tins]; omega
theorem tins_mem {T : Tb} {a v : Int} {p : Int × Int} : p ∈ tins T a v ↔ p = (a, v) ∨ p ∈ T := by
  have e := List.take_append_drop (tlow T a) T
  constructor
  · intro h
    rcases List.mem_append.1 h with h | h
    · exact Or.inr (List.mem_of_mem_take h)
    · rcases List.mem_cons.1 h with h | h
      · exact Or.inl h
      · exact Or.inr (List.mem_of_mem_drop h)
  · intro h
    rcases h with h | h
    · exact List.mem_append.2 (Or.inr (List.mem_cons.2 (Or.inl h)))
    · rw [← e] at h
      rcases List.mem_append.1 h with h | h
      · exact List.mem_append.2 (Or.inl h)
      · exact List.mem_append.2 (Or.inr (List.mem_cons.2 (Or.inr h)))
theorem thas_ins {T : Tb} {a v b : Int} : thas (tins T a v) b = (decide (a = b) || thas T b) := by
  apply Bool.eq_iff_iff.2
  unfold thas
  rw [List.any_eq_true, Bool.or_eq_true, List.any_eq_true]
  constructor
  · rintro ⟨p, hp, he⟩
    rcases tins_mem.1 hp with rfl | hp
    · exact Or.inl (by simpa using he)
    · exact Or.inr ⟨p, hp, he⟩
  · rintro (h | ⟨p, hp, he⟩)
    · exact ⟨(a, v), tins_mem.2 (Or.inl rfl), by simpa using h⟩
    · exact ⟨p, tins_mem.2 (Or.inr hp), he⟩
end Go.Proofs.YteflnddphpjahaaDoor.Sp
/-
  Plain facts: vertices and edges gathered line by line (no program in this text).
-/
set_option linter.unusedVariables false
set_option linter.unusedSimpArgs false
namespace Go.Proofs.YteflnddphpjahaaDoor.Sp
open Go

def gv : List (Option Ln) → Nat → Tb → Except Nat Tb
  | [], _, T => .ok T
  | none :: r, k, T => gv r (k + 1) T
  | some l :: r, k, T => if l.edge = true then gv r (k + 1) T else if thas T l.frm = true then .error k else gv r (k + 1) (tins T l.frm l.n)
theorem gv_end {P : List (Option Ln)} {k : Nat} (h : P.length ≤ k) (T : Tb) : gv (P.drop k) k T = .ok T := by
  rw [List.drop_of_length_le h]; rfl
theorem gv_skip {P : List (Option Ln)} {k : Nat} (h : k < P.length) (T : Tb) (he : ¬ pk P[k] = 1) : gv (P.drop k) k T = gv (P.drop (k + 1)) (k + 1) T := by
  rw [List.drop_eq_getElem_cons h]
  cases hp : P[k] with
  | none => rfl
  | some l =>
    rw [hp] at he
    have : l.edge = true := by
      cases hq : l.edge with
      | true => rfl
      | false => exact absurd (by simp [pk, hq]) he
    simp only [gv, this, if_true]
theorem pk_one {p : Option Ln} (h : pk p = 1) : ∃ l, p = some l ∧ l.edge = false ∧ pa p = l.frm ∧ pn p = l.n := by
  cases p with
  | none => simp [pk] at h
  | some l =>
    cases hq : l.edge with
    | true => simp [pk, hq] at h
    | false => exact ⟨l, rfl, hq, rfl, rfl⟩
theorem pk_two {p : Option Ln} (h : pk p = 2) : ∃ l, p = some l ∧ l.edge = true ∧ pa p = l.frm ∧ pb p = l.to ∧ pn p = l.n := by
  cases p with
  | none => simp [pk] at h
  | some l =>
    cases hq : l.edge with
    | false => simp [pk, hq] at h
    | true => exact ⟨l, rfl, hq, rfl, by simp [pb, hq], rfl⟩
theorem gv_twice {P : List (Option Ln)} {k : Nat} (h : k < P.length) (T : Tb) (he : pk P[k] = 1) (ht : thas T (pa P[k]) = true) : gv (P.drop k) k T = .error k := by
  rw [List.drop_eq_getElem_cons h]
  obtain ⟨l, hp, h1, h2, h3⟩ := pk_one he
  rw [h2] at ht
  rw [hp]
  simp only [gv, h1, ht]; rfl
theorem gv_add {P : List (Option Ln)} {k : Nat} (h : k < P.length) (T : Tb) (he : pk P[k] = 1) (ht : thas T (pa P[k]) = false) : gv (P.drop k) k T = gv (P.drop (k + 1)) (k + 1) (tins T (pa P[k]) (pn P[k])) := by
  rw [List.drop_eq_getElem_cons h]
  obtain ⟨l, hp, h1, h2, h3⟩ := pk_one he
  rw [h2, h3]
  rw [h2] at ht
  rw [hp]
  simp only [gv, h1, ht]; rfl

def ge (T : Tb) : List (Option Ln) → Nat → List Ed → Except Nat (List Ed)
  | [], _, E => .ok E
  | none :: r, k, E => ge T r (k + 1) E
  | some l :: r, k, E => if l.edge = true then (if thas T l.frm = true ∧ thas T l.to = true then ge T r (k + 1) (E ++ [⟨tlow T l.frm, tlow T l.to, l.n⟩]) else .error k) else ge T r (k + 1) E
theorem ge_end {T : Tb} {P : List (Option Ln)} {k : Nat} (h : P.length ≤ k) (E : List Ed) : ge T (P.drop k) k E = .ok E := by
  rw [List.drop_of_length_le h]; rfl
theorem ge_skip {T : Tb} {P : List (Option Ln)} {k : Nat} (h : k < P.length) (E : List Ed) (he : ¬ pk P[k] = 2) : ge T (P.drop k) k E = ge T (P.drop (k + 1)) (k + 1) E := by
  rw [List.drop_eq_getElem_cons h]
  cases hp : P[k] with
  | none => rfl
  | some l =>
    rw [hp] at he
    have : l.edge = false := by
      cases hq : l.edge with
      | false => rfl
      | true => exact absurd (by simp [pk, hq]) he
    simp only [ge, this]; rfl
theorem ge_loose {T : Tb} {P : List (Option Ln)} {k : Nat} (h : k < P.length) (E : List Ed) (he : pk P[k] = 2) (ht : ¬ (thas T (pa P[k]) = true ∧ thas T (pb P[k]) = true)) : ge T (P.drop k) k E = .error k := by
  rw [List.drop_eq_getElem_cons h]
  obtain ⟨l, hp, h1, h2, h3, h4⟩ := pk_two he
  rw [h2, h3] at ht
  rw [hp]
  simp only [ge, h1, ht, if_true, if_false]
theorem ge_add {T : Tb} {P : List (Option Ln)} {k : Nat} (h : k < P.length) (E : List Ed) (he : pk P[k] = 2) (ha : thas T (pa P[k]) = true) (hb : thas T (pb P[k]) = true) : ge T (P.drop k) k E = ge T (P.drop (k + 1)) (k + 1) (E ++ [⟨tlow T (pa P[k]), tlow T (pb P[k]), pn P[k]⟩]) := by
  rw [List.drop_eq_getElem_cons h]
  obtain ⟨l, hp, h1, h2, h3, h4⟩ := pk_two he
  rw [h2] at ha
  rw [h3] at hb
  rw [h2, h3, h4, hp]
  simp only [ge, h1, ha, hb, and_self, if_true]
end Go.Proofs.YteflnddphpjahaaDoor.Sp
