/- Seal and Open, of the code and of the document: one contract each, whether they answer or refuse; what is sealed opens as itself. -/
import Derived.Test.YtedojbhebbdagaaPad2
import Derived.Lib.SlBytesConst
set_option linter.unusedVariables false
namespace Go.Proofs.Ytedojbhebbdagaa.PadU
open Go.RowKit Go.Proofs.Ytedojbhebbdagaa.Sums Go.Proofs.Ytedojbhebbdagaa.Mem Go.Proofs.Ytedojbhebbdagaa.Blk Go.Proofs.Ytedojbhebbdagaa.Bits Go.Proofs.Ytedojbhebbdagaa.Bits3 Go.Proofs.Ytedojbhebbdagaa.Ints Go.Proofs.Ytedojbhebbdagaa.Cut Go.Proofs.Ytedojbhebbdagaa.PadR Go.Proofs.Ytedojbhebbdagaa.PadO Go.Proofs.Ytedojbhebbdagaa.Pad1 Go.Proofs.Ytedojbhebbdagaa.Pad2

def slE (n : Nat) (x : Int) : Int := if x < 0 ∨ 255 < x then 1 else if 65535 < n then 2 else 0
def slO (l : List Int) (x : Int) : List Int := if x < 0 ∨ 255 < x then [] else if 65535 < l.length then [] else sealed l x
def opE (l : List Int) : Int := if l.length < 2 then 8 else if okO l then 0 else 130
def opY (l : List Int) : Int := if l.length < 2 then 0 else if okO l then l.getD (l.length - 1) 0 else 0
def opO (l : List Int) : List Int := if l.length < 2 then [] else if okO l then l.take (l.length - 2 - told l) else []
/-- Bytes and an error; bytes, a number and an error. -/
def Ans (w : World) (X : List Int) (er : Int) (e : Ending) (w' : World) : Prop := ∃ A c, e = .returned (.tuple #[.slice A X.length c, .int .i64 er]) ∧ Holds w' w'.heap.size A X.length c X ∧ Below w.heap.size w w'
def Ans3 (w : World) (X : List Int) (y er : Int) (e : Ending) (w' : World) : Prop := ∃ A c, e = .returned (.tuple #[.slice A X.length c, .int .i64 y, .int .i64 er]) ∧ Holds w' w'.heap.size A X.length c X ∧ Below w.heap.size w w'
theorem sealed_len (l : List Int) (x : Int) : (sealed l x).length = long l.length := by
  have := cnt_long l.length
  simp [sealed, ups_len]
  omega

section
variable (A : Option Addr) (n c : Nat) (l : List Int) (x : Int) (w : World) (B : Nat)
theorem seal_u (h : Holds w B A n c l) (hB : B ≤ w.heap.size) (h3 : n ≤ 140737488355328) : Calls Try.prog 8 #[.slice A n c, .int .i64 x] w (Ans w (slO l x) (slE n x)) := by
  obtain rfl := h.1
  by_cases q : x < 0 ∨ 255 < x
  · rw [slO, slE, if_pos q, if_pos q]
    refine (seal_arg_no A _ c x w q).mono ?_
    rintro e w' ⟨he, rfl⟩
    exact ⟨none, 0, he, Holds.nil _ _ _, Below.refl _ _⟩
  · by_cases q2 : 65535 < l.length
    · rw [slO, slE, if_neg q, if_neg q, if_pos q2, if_pos q2]
      refine (seal_long_no A _ c x w (by omega) (by omega) q2 h3).mono ?_
      rintro e w' ⟨he, rfl⟩
      exact ⟨none, 0, he, Holds.nil _ _ _, Below.refl _ _⟩
    · rw [slO, slE, if_neg q, if_neg q, if_neg q2, if_neg q2]
      refine (seal_no A _ c l x w B h hB (by omega) (by omega) (by omega)).mono ?_
      rintro e w' ⟨v, he, o, hb⟩
      rw [← sealed_len l x] at o
      obtain ⟨A', c', rfl, hh⟩ := o.slice
      exact ⟨A', c', he, hh, hb⟩
theorem seal_ru (h : Holds w B A n c l) (hB : B ≤ w.heap.size) (h3 : n ≤ 140737488355328) : Calls Try.prog 9 #[.slice A n c, .int .i64 x] w (Ans w (slO l x) (slE n x)) := by
  obtain rfl := h.1
  by_cases q : x < 0 ∨ 255 < x
  · rw [slO, slE, if_pos q, if_pos q]
    refine (seal_arg A _ c x w q).mono ?_
    rintro e w' ⟨he, rfl⟩
    exact ⟨none, 0, he, Holds.nil _ _ _, Below.refl _ _⟩
  · by_cases q2 : 65535 < l.length
    · rw [slO, slE, if_neg q, if_neg q, if_pos q2, if_pos q2]
      refine (seal_long A _ c x w (by omega) (by omega) q2 h3).mono ?_
      rintro e w' ⟨he, rfl⟩
      exact ⟨none, 0, he, Holds.nil _ _ _, Below.refl _ _⟩
    · rw [slO, slE, if_neg q, if_neg q, if_neg q2, if_neg q2]
      refine (seal_ok A _ c l x w B h hB (by omega) (by omega) (by omega)).mono ?_
      rintro e w' ⟨v, he, o, hb⟩
      rw [← sealed_len l x] at o
      obtain ⟨A', c', rfl, hh⟩ := o.slice
      exact ⟨A', c', he, hh, hb⟩
theorem open_u (h : Holds w B A n c l) (hB : B ≤ w.heap.size) (h3 : n ≤ 1000000) : Calls Try.prog 10 #[.slice A n c] w (Ans3 w (opO l) (opY l) (opE l)) := by
  obtain rfl := h.1
  by_cases q : l.length < 2
  · rw [opO, opY, opE, if_pos q, if_pos q, if_pos q]
    refine (open_more_no A _ c w q).mono ?_
    rintro e w' ⟨he, rfl⟩
    exact ⟨none, 0, he, Holds.nil _ _ _, Below.refl _ _⟩
  · rw [opO, opY, opE, if_neg q, if_neg q, if_neg q]
    refine (open_no A _ c l w B h hB (by omega) h3).mono ?_
    rintro e w' (⟨k, he, hb⟩ | ⟨k, v, he, o, hb⟩)
    · rw [k]
      exact ⟨none, 0, he, Holds.nil _ _ _, hb⟩
    · rw [k]
      have hl : (l.take (l.length - 2 - told l)).length = l.length - 2 - told l := by rw [List.length_take]; omega
      obtain ⟨A', c', rfl, hh⟩ := o.slice
      rw [if_pos rfl, if_pos rfl, if_pos rfl]
      unfold Ans3
      rw [hl]
      exact ⟨A', c', he, hh, hb⟩
theorem open_ru (h : Holds w B A n c l) (hB : B ≤ w.heap.size) (h3 : n ≤ 1000000) : Calls Try.prog 11 #[.slice A n c] w (Ans3 w (opO l) (opY l) (opE l)) := by
  obtain rfl := h.1
  by_cases q : l.length < 2
  · rw [opO, opY, opE, if_pos q, if_pos q, if_pos q]
    refine (open_more A _ c w q).mono ?_
    rintro e w' ⟨he, rfl⟩
    exact ⟨none, 0, he, Holds.nil _ _ _, Below.refl _ _⟩
  · rw [opO, opY, opE, if_neg q, if_neg q, if_neg q]
    refine (open_ref A _ c l w B h hB (by omega) h3).mono ?_
    rintro e w' (⟨k, he, rfl⟩ | ⟨k, v, he, o, hb⟩)
    · rw [k]
      exact ⟨none, 0, he, Holds.nil _ _ _, Below.refl _ _⟩
    · rw [k]
      have hl : (l.take (l.length - 2 - told l)).length = l.length - 2 - told l := by rw [List.length_take]; omega
      obtain ⟨A', c', rfl, hh⟩ := o.slice
      rw [if_pos rfl, if_pos rfl, if_pos rfl]
      unfold Ans3
      rw [hl]
      exact ⟨A', c', he, hh, hb⟩
end

/-! ### What is sealed -/
theorem ups_at {m i : Nat} (h : i < m) : (ups m)[i]? = some ((i : Int) + 1) := by simp [ups, List.getElem?_range h]
theorem row_at (l : List Int) (m : Nat) (x : Int) : (l ++ ups m ++ [(m : Int), x]).length = l.length + m + 2 ∧ (l ++ ups m ++ [(m : Int), x]).getD (l.length + m) 0 = (m : Int) ∧ (l ++ ups m ++ [(m : Int), x]).getD (l.length + m + 1) 0 = x ∧
    ∀ i, i < m → (l ++ ups m ++ [(m : Int), x]).getD (l.length + i) 0 = (i : Int) + 1 := by
  refine ⟨by simp [ups_len]; omega, ?_, ?_, fun i hi => ?_⟩
  · rw [List.getD_eq_getElem?_getD, List.getElem?_append_right (by simp [ups_len])]
    simp [ups_len]
  · rw [List.getD_eq_getElem?_getD, List.getElem?_append_right (by rw [List.length_append, ups_len]; omega)]
    have e : l.length + m + 1 - (l ++ ups m).length = 1 := by rw [List.length_append, ups_len]; omega
    rw [e]
    rfl
  · rw [List.getD_eq_getElem?_getD, List.append_assoc, List.getElem?_append_right (by omega), List.getElem?_append_left (by rw [ups_len]; omega), show l.length + i - l.length = i by omega, ups_at hi]
    rfl
theorem told_row (l : List Int) (m : Nat) (x : Int) : told (l ++ ups m ++ [(m : Int), x]) = m := by
  obtain ⟨h1, h2, h3, h4⟩ := row_at l m x
  unfold told
  rw [h1, show l.length + m + 2 - 2 = l.length + m by omega, h2]
  rfl
theorem open_row (l : List Int) (m : Nat) (x : Int) : opE (l ++ ups m ++ [(m : Int), x]) = 0 ∧ opO (l ++ ups m ++ [(m : Int), x]) = l ∧ opY (l ++ ups m ++ [(m : Int), x]) = x := by
  obtain ⟨h1, h2, h3, h4⟩ := row_at l m x
  have ht := told_row l m x
  have ok : okO (l ++ ups m ++ [(m : Int), x]) = true := by
    unfold okO
    rw [ht, h1, decide_eq_true (by omega), Bool.true_and, List.all_eq_true]
    intro i hi
    rw [show l.length + m + 2 - 2 - m + i = l.length + i by omega, h4 i (List.mem_range.1 hi)]
    simp
  have hn : ¬ (l ++ ups m ++ [(m : Int), x]).length < 2 := by rw [h1]; omega
  refine ⟨by rw [opE, if_neg hn, ok]; rfl, ?_, ?_⟩
  · rw [opO, if_neg hn, ok, if_pos rfl, ht, h1, show l.length + m + 2 - 2 - m = l.length by omega, List.append_assoc, List.take_left]
  · rw [opY, if_neg hn, ok, if_pos rfl, h1, show l.length + m + 2 - 1 = l.length + m + 1 by omega, h3]
theorem open_bad (l : List Int) (m k : Nat) (x z : Int) (hk : k < m) (hz : z ≠ (k : Int) + 1) : opE ((l ++ ups m ++ [(m : Int), x]).set (l.length + k) z) = 130 ∧ opO ((l ++ ups m ++ [(m : Int), x]).set (l.length + k) z) = [] ∧ opY ((l ++ ups m ++ [(m : Int), x]).set (l.length + k) z) = 0 := by
  obtain ⟨h1, h2, h3, h4⟩ := row_at l m x
  have gs : ∀ i, i ≠ l.length + k → ((l ++ ups m ++ [(m : Int), x]).set (l.length + k) z).getD i 0 = (l ++ ups m ++ [(m : Int), x]).getD i 0 := fun i hi => by
    rw [List.getD_eq_getElem?_getD, List.getElem?_set_ne (Ne.symm hi), ← List.getD_eq_getElem?_getD]
  have gk : ((l ++ ups m ++ [(m : Int), x]).set (l.length + k) z).getD (l.length + k) 0 = z := by
    rw [List.getD_eq_getElem?_getD, List.getElem?_set_self (by rw [h1]; omega)]
    rfl
  have hl : ((l ++ ups m ++ [(m : Int), x]).set (l.length + k) z).length = l.length + m + 2 := by rw [List.length_set, h1]
  have ht : told ((l ++ ups m ++ [(m : Int), x]).set (l.length + k) z) = m := by
    unfold told
    rw [hl, gs _ (by omega), show l.length + m + 2 - 2 = l.length + m by omega, h2]
    rfl
  have ok : okO ((l ++ ups m ++ [(m : Int), x]).set (l.length + k) z) = false := by
    unfold okO
    rw [ht, hl, Bool.and_eq_false_iff]
    refine .inr ?_
    rw [List.all_eq_false]
    refine ⟨k, List.mem_range.2 hk, ?_⟩
    rw [show l.length + m + 2 - 2 - m + k = l.length + k by omega, gk]
    simpa using hz
  have hn : ¬ ((l ++ ups m ++ [(m : Int), x]).set (l.length + k) z).length < 2 := by rw [hl]; omega
  refine ⟨by rw [opE, if_neg hn, ok]; rfl, by rw [opO, if_neg hn, ok]; rfl, by rw [opY, if_neg hn, ok]; rfl⟩

/-! ### Literals -/
theorem Holds.laid (w : World) (l : List Nat) (cs : Array Value) (fz : Nat × Nat) (n g : Nat) (hc : cs = bcells l) (hb : ∀ x ∈ l, x < 256) (hn : l.length = n) (hg : w.heap.size = g) (hm : n ≤ 1048576) : Holds (w.alloc (.cells cs 5 fz)) (g + 1) (some ⟨g, 0, none⟩) n n (ints l) := by
  subst hc hn hg
  refine ⟨by simp [ints], Nat.le_refl _, by simp only [maxLen]; omega, fun z hz => ints_in hb z hz, fun _ => ⟨w.heap.size, 0, rfl, by omega, fun j z hz => ?_⟩⟩
  have hj : j < l.length := by
    rcases Nat.lt_or_ge j l.length with h' | h'
    · exact h'
    · rw [List.getElem?_eq_none (by simpa [ints] using h')] at hz; cases hz
  rw [Nat.zero_add, cell_of_row _ w.heap.size j _ 5 fz (heap_alloc_new w _), bcells_get l j hj, ← ints_getD, List.getD_eq_getElem?_getD, hz]
  rfl
theorem cvt (w : World) (C : Array Value) (n : Nat) : (convert 22 22 (.slice (some ⟨w.heap.size, 0, none⟩) n n)).run Try.prog (w.alloc (.cells C 5)) = .ok (.slice (some ⟨w.heap.size, 0, none⟩) n n) (w.alloc (.cells C 5 (C.size, C.size + 1))) :=
  Lib.run_convert_bytes_const w 22 5 C n n Try.underlying22 Try.underlying5

theorem both_one (A : Option Addr) (n c : Nat) (l : List Int) (w : World) (B : Nat) (h : Holds w B A n c l) (hB : B ≤ w.heap.size) (hn : n ≤ 1048576) (g : Nat) (hg : w.heap.size = g) (cs : Array Value) (hc : cs = #[.slice A n c]) :
    Calls Try.prog 7 #[.slice (some ⟨g, 0, none⟩) 1 1] (w.alloc (.cells cs 22)) fun e w' => ∃ A' c', e = .returned (.slice A' n c') ∧ Holds w' w'.heap.size A' n c' l ∧ Owns w' w.heap.size (.slice A' n c') n l ∧ Below w.heap.size w w' := by
  have q := Both.both_lit hB [⟨A, n, c, l⟩] cs 22 (by rw [hc]; rfl) (Both.mem1 h) g 1 hg rfl (by decide) (by show n + 0 ≤ 1048576; omega)
  rw [show Both.total [⟨A, n, c, l⟩] = n from rfl, show Both.flat [⟨A, n, c, l⟩] = l by simp [Both.flat]] at q
  exact q

/-! ### Texts -/
theorem toList_eq (a b : ByteArray) : (a.toList == b.toList) = decide (a = b) := by
  by_cases h : a = b
  · subst h; simp
  · have : a.toList ≠ b.toList := fun e => h (by
      cases a; cases b
      rw [ByteArray.toList_eq, ByteArray.toList_eq] at e
      simp at e
      rw [e])
    simp [h, this]
theorem ex_seal : slO (ints [97, 98, 99]) 6 = ints [97, 98, 99, 1, 2, 3, 3, 6] ∧ slE 3 6 = 0 := by decide
theorem ex_open : opO (ints [97, 98, 99, 1, 2, 3, 3, 6]) = ints [97, 98, 99] ∧ opY (ints [97, 98, 99, 1, 2, 3, 3, 6]) = 6 ∧ opE (ints [97, 98, 99, 1, 2, 3, 3, 6]) = 0 := by decide
theorem ex_bad : opO (ints [1, 3, 2, 6]) = [] ∧ opY (ints [1, 3, 2, 6]) = 0 ∧ opE (ints [1, 3, 2, 6]) = 130 := by decide
theorem ex_str1 : strOfNums (ints [97, 98, 99, 1, 2, 3, 3, 6]) = ⟨#[97, 98, 99, 1, 2, 3, 3, 6]⟩ := by kernel_rfl
theorem ex_str2 : strOfNums (ints [97, 98, 99]) = ⟨#[97, 98, 99]⟩ := by kernel_rfl
set_option maxHeartbeats 1000000 in
theorem awake_any (w : World) : Calls Try.prog 12 #[] w fun e w' => e = .returned (.bool true) ∧ Below w.heap.size w w' := by
  have cv0 := cvt w #[.int .u8 97, .int .u8 98, .int .u8 99] 3
  have L0 : Hid (Holds (w.alloc (.cells #[.int .u8 97, .int .u8 98, .int .u8 99] 5 (3, 4))) (w.heap.size + 1) (some ⟨w.heap.size, 0, none⟩) 3 3 (ints [97, 98, 99])) := Lib.hid (Holds.laid w [97, 98, 99] _ (3, 4) 3 _ rfl (by decide) rfl rfl (by decide))
  have B0 := Lib.hid ((Below.refl w.heap.size w).alloc (Nat.le_refl _) (.cells #[.int .u8 97, .int .u8 98, .int .u8 99] 5 (3, 4)))
  have C := Lib.hid (seal_u _ 3 3 _ 6 _ _ L0.out (by simp) (by decide))
  have LN := length_no 3 (by decide)
  rw [show ((lengthI 3 : Nat) : Int) = 8 from rfl] at LN
  have LN' := Lib.hid LN
  rw [ex_seal.1, ex_seal.2] at C
  clear L0 LN
  go_enter Try.func12, Try.ntmps12
  go_wp2_with fail
  refine C.out.mono ?_
  rintro e w1 ⟨A1, c1, rfl, hh, hb⟩
  have H1 := Lib.hid hh
  have B1 := Lib.hid (B0.out.trans (hb.mono (by simp)))
  have C2 := Lib.hid (open_u A1 _ c1 _ w1 _ hh (Nat.le_refl _) (by decide))
  rw [ex_open.1, ex_open.2.1, ex_open.2.2] at C2
  clear hh hb C B0 cv0
  rw [show (ints [97, 98, 99, 1, 2, 3, 3, 6]).length = 8 from rfl] at H1 C2 ⊢
  go_wp2_with fail
  refine C2.out.mono ?_
  rintro e w2 ⟨A2, c2, rfl, hh, hb⟩
  have H2 := Lib.hid hh
  have B2 := Lib.hid (B1.out.trans (hb.mono B1.out.size))
  replace H1 := Lib.hid ((H1.out.below hb).more hb.size)
  clear hh hb C2
  rw [show (ints [97, 98, 99]).length = 3 from rfl] at H2 ⊢
  have L3 : Hid (Holds (w2.alloc (.cells #[.int .u8 1, .int .u8 3, .int .u8 2, .int .u8 6] 5)) (w2.heap.size + 1) (some ⟨w2.heap.size, 0, none⟩) 4 4 (ints [1, 3, 2, 6])) := Lib.hid (Holds.laid w2 [1, 3, 2, 6] _ (0, 0) 4 _ rfl (by decide) rfl rfl (by decide))
  have B3 := Lib.hid ((Below.refl w2.heap.size w2).alloc (Nat.le_refl _) (.cells #[.int .u8 1, .int .u8 3, .int .u8 2, .int .u8 6] 5))
  have C3 := Lib.hid (open_u _ 4 4 _ _ _ L3.out (by simp) (by decide))
  rw [ex_bad.1, ex_bad.2.1, ex_bad.2.2] at C3
  clear L3
  go_wp2_with fail
  refine C3.out.mono ?_
  rintro e w4 ⟨A4, c4, rfl, _, hb⟩
  have D4 := Lib.hid (B3.out.trans (hb.mono (by simp)))
  have B4 := Lib.hid (B2.out.trans (D4.out.mono B2.out.size))
  have s1 := run_string_bytes (H1.out.below D4.out |>.more D4.out.size)
  have s2 := run_string_bytes (H2.out.below D4.out |>.more D4.out.size)
  rw [ex_str1] at s1
  rw [ex_str2] at s2
  clear hb C3 B3 D4 H1 H2
  go_wp2_with fail
  refine (LN'.out w4).mono ?_
  rintro e w' ⟨rfl, rfl⟩
  go_wp2_with fail
  go_ret
  exact ⟨rfl, B4.out⟩
end Go.Proofs.Ytedojbhebbdagaa.PadU
