/- Sums of what stands ahead of bytes between two addresses, for any protocol; checks. No program is named but the kind of its numbers. -/
import Derived.Test.YtmomkjgnopcobaaTot
import Derived.Test.YtmomkjgnopcobaaAppend
set_option linter.unusedVariables false
namespace Go.Proofs.Ytmomkjgnopcobaa.Ahead
open Go.RowKit Go.Proofs.Ytmomkjgnopcobaa.Sums Go.Proofs.Ytmomkjgnopcobaa.Mem

/-- Are two addresses of one version? -/
def paired (s d : ByteArray) : Bool := decide (s.size = d.size) && (decide (s.size = 4) || decide (s.size = 16))
theorem paired_true {s d : ByteArray} (h : paired s d = true) : s.size = d.size ∧ (s.size = 4 ∨ s.size = 16) := by
  unfold paired at h
  simpa only [Bool.and_eq_true, Bool.or_eq_true, decide_eq_true_eq] using h
theorem paired_make {s d : ByteArray} (h : s.size = d.size) (k : s.size = 4 ∨ s.size = 16) : paired s d = true := by
  unfold paired
  simp only [Bool.and_eq_true, Bool.or_eq_true, decide_eq_true_eq]
  exact ⟨h, k⟩
theorem paired_comm (s d : ByteArray) : paired s d = paired d s := by
  cases h : paired s d
  · cases k : paired d s
    · rfl
    · have := paired_true k
      rw [paired_make this.1.symm (by omega)] at h
      cases h
  · have := paired_true h
    rw [paired_make this.1.symm (by omega)]
/-- Is a number from 0 to another one? -/
def wi (n m : Int) : Bool := decide (0 ≤ n) && decide (n ≤ m)
theorem wi_true {n m : Int} (h : wi n m = true) : 0 ≤ n ∧ n ≤ m := by unfold wi at h; simpa using h
theorem wi_make {n m : Int} (h : 0 ≤ n) (k : n ≤ m) : wi n m = true := by unfold wi; simp [h, k]

/-- What stands ahead of n bytes of a protocol when they are summed. -/
def ahead (s d : ByteArray) (p n : Int) : List Int := if s.size = 4 then nums s ++ (nums d ++ [0, p, n / 256, n % 256]) else nums s ++ (nums d ++ [n / 16777216, n / 65536 % 256, n / 256 % 256, n % 256, 0, 0, 0, p])
def around (s d : ByteArray) (p n : Int) : Int := sums 0 (ahead s d p n)
theorem around_in (s d : ByteArray) (p n : Int) : 0 ≤ around s d p n ∧ around s d p n ≤ 65535 := sums_in _ 0 (by omega) (by omega)
/-- The sum of all that a check is for. -/
def whole (s d : ByteArray) (p : Int) (l : List Int) : Int := add (around s d p l.length) (sums 0 l)
theorem whole_in (s d : ByteArray) (p : Int) (l : List Int) : 0 ≤ whole s d p l ∧ whole s d p l ≤ 65535 := ⟨add_lo _ _, add_hi _ _⟩

/-- The number of two bytes, of four. -/
def w16 (l : List Int) (i : Nat) : Int := 256 * l.getD i 0 + l.getD (i + 1) 0
def w32 (l : List Int) (i : Nat) : Int := 65536 * w16 l i + w16 l (i + 2)
theorem getD_in {l : List Int} (h : Bytes l) (i : Nat) : 0 ≤ l.getD i 0 ∧ l.getD i 0 ≤ 255 := by
  by_cases hi : i < l.length
  · have := h.at_ i hi
    rw [List.getD_eq_getElem?_getD, List.getElem?_eq_getElem hi]
    exact this
  · rw [List.getD_eq_getElem?_getD, List.getElem?_eq_none (by omega)]
    exact ⟨by decide, by decide⟩
theorem w16_in {l : List Int} (h : Bytes l) (i : Nat) : 0 ≤ w16 l i ∧ w16 l i ≤ 65535 := by
  have := getD_in h i
  have := getD_in h (i + 1)
  unfold w16
  omega
theorem w32_in {l : List Int} (h : Bytes l) (i : Nat) : 0 ≤ w32 l i ∧ w32 l i ≤ 4294967295 := by
  have := w16_in h i
  have := w16_in h (i + 2)
  unfold w32
  omega

/-! ### Sums as numbers -/
theorem tot_append (a b : List Int) (h : a.length % 2 = 0) : tot (a ++ b) = tot a + tot b := by
  match a, h with
  | [], _ => simp [tot]
  | x :: y :: r, h =>
    have := tot_append r b (by simp at h; omega)
    show 256 * x + y + tot (r ++ b) = 256 * x + y + tot r + tot b
    rw [this]; omega
  termination_by a.length
theorem ahead_bytes (s d : ByteArray) {p n : Int} (p0 : 0 ≤ p) (p1 : p ≤ 255) (n0 : 0 ≤ n) (n1 : n ≤ 4294967295) (h4 : s.size = 4 → n ≤ 65535) : Bytes (ahead s d p n) := by
  unfold ahead
  split
  · next q =>
    have := h4 q
    refine (nums_bytes _).append ((nums_bytes _).append fun z hz => ?_)
    simp at hz
    omega
  · refine (nums_bytes _).append ((nums_bytes _).append fun z hz => ?_)
    simp at hz
    omega
theorem ahead_tot {s d : ByteArray} (h : paired s d = true) (p n : Int) : tot (ahead s d p n) = tot (nums s) + tot (nums d) + (p + (if s.size = 4 then 256 * (n / 256) + n % 256 else 256 * (n / 16777216) + n / 65536 % 256 + (256 * (n / 256 % 256) + n % 256))) := by
  obtain ⟨e, h⟩ := paired_true h
  have ls := nums_len s
  have ld := nums_len d
  unfold ahead
  split
  all_goals
    rw [tot_append _ _ (by omega), tot_append _ _ (by omega)]
    simp only [tot]
    omega
theorem ahead_comm {s d : ByteArray} (h : paired s d = true) (p n : Int) : tot (ahead s d p n) = tot (ahead d s p n) := by
  rw [ahead_tot h, ahead_tot (by rw [paired_comm]; exact h)]
  have := paired_true h
  rw [this.1]
  split <;> omega
theorem ahead_pos {s d : ByteArray} (h : paired s d = true) {p n : Int} (p0 : 0 < p) (n0 : 0 ≤ n) : 0 < tot (ahead s d p n) := by
  rw [ahead_tot h]
  have := tot_lo _ (nums_bytes s)
  have := tot_lo _ (nums_bytes d)
  split <;> omega
theorem whole_fold {s d : ByteArray} {p : Int} {l : List Int} (p0 : 0 ≤ p) (p1 : p ≤ 255) (hl : Bytes l) (h1 : l.length ≤ 65535) : whole s d p l = fold (tot (ahead s d p l.length) + tot l) := by
  have hb := ahead_bytes s d (p := p) (n := l.length) p0 p1 (by omega) (by omega) (by omega)
  have t := tot_lo _ hb
  have t' := tot_lo _ hl
  unfold whole around
  rw [sums_tot hb, sums_tot hl, add_fold (fold_lo _) (fold_hi _) (fold_lo _) (fold_hi _), fold_fold t (fold_lo _), Int.add_comm, fold_fold t' t, Int.add_comm]
theorem whole_comm {s d : ByteArray} (h : paired s d = true) {p : Int} {l : List Int} (p0 : 0 ≤ p) (p1 : p ≤ 255) (hl : Bytes l) (h1 : l.length ≤ 65535) : whole s d p l = whole d s p l := by
  rw [whole_fold p0 p1 hl h1, whole_fold p0 p1 hl h1, ahead_comm h]
/-- A check, and the sum with it. -/
theorem plain_fold {t k : Int} (h : 0 < t) (e : k = 65535 - fold t) : fold (t + k) = 65535 := by
  subst e
  unfold fold
  repeat' split
  all_goals omega
/-- .. the other way round, but for the two ways in which a check may be 0. -/
theorem fold_plain {t k : Int} (h : 0 < t) (k0 : 0 ≤ k) (k1 : k ≤ 65535) (e : fold (t + k) = 65535) : k = 65535 - fold t ∨ (k = 65535 ∧ 65535 - fold t = 0) := by
  unfold fold at e ⊢
  repeat' split at e
  all_goals repeat' split
  all_goals omega
end Go.Proofs.Ytmomkjgnopcobaa.Ahead
