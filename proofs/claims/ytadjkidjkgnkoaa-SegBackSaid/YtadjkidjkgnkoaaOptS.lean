/- Plain facts: the options of a text, from a place on; the first one of a kind. No program is named. -/
import Derived.Test.YtadjkidjkgnkoaaBytes
import Derived.PlainAid
set_option linter.unusedVariables false
namespace Go.Proofs.Ytadjkidjkgnkoaa.OptS
open Go.RowKit Go.PlainAid

/-- The options of a text; none: it is refused. -/
def optsS (s : ByteArray) : Option (List (Int × ByteArray)) :=
  if h : 0 < s.size then
    if (s[0]'h).toNat = 0 then some []
    else if (s[0]'h).toNat = 1 then (optsS (s.extract 1 s.size)).map (((1 : Int), (⟨#[]⟩ : ByteArray)) :: ·)
    else if h2 : 1 < s.size then
      if (s[1]'h2).toNat < 2 ∨ s.size < (s[1]'h2).toNat then none
      else (optsS (s.extract (s[1]'h2).toNat s.size)).map ((((s[0]'h).toNat : Int), s.extract 2 (s[1]'h2).toNat) :: ·)
    else none
  else some []
termination_by s.size
decreasing_by
  all_goals simp only [ByteArray.size_extract]; omega

theorem ex_size (s : ByteArray) (k : Nat) : (s.extract k s.size).size = s.size - k := by rw [ByteArray.size_extract]; omega
theorem ex_get (s : ByteArray) (k i : Nat) (h : i < (s.extract k s.size).size) : (((s.extract k s.size)[i]'h).toNat : Int) = bt s (k + i) := by
  rw [← get_bt s (k + i) (by rw [ex_size] at h; omega)]
  congr 2
  exact ByteArray.getElem_extract _
theorem ex_ex (s : ByteArray) (k a : Nat) : (s.extract k s.size).extract a (s.extract k s.size).size = s.extract (k + a) s.size := by
  rw [ByteArray.extract_extract, ex_size]
  congr 1
  omega
theorem ex_mid (s : ByteArray) (k m : Nat) (h : k + m ≤ s.size) : (s.extract k s.size).extract 2 m = s.extract (k + 2) (k + m) := by
  rw [ByteArray.extract_extract]
  congr 1
  omega
theorem at_end (s : ByteArray) (k : Nat) (h : s.size ≤ k) : optsS (s.extract k s.size) = some [] := by
  rw [optsS, dif_neg (by rw [ex_size]; omega)]
theorem at_zero (s : ByteArray) (k : Nat) (h : k < s.size) (h0 : bt s k = 0) : optsS (s.extract k s.size) = some [] := by
  have hp : 0 < (s.extract k s.size).size := by rw [ex_size]; omega
  have e := ex_get s k 0 hp
  rw [Nat.add_zero, h0] at e
  rw [optsS, dif_pos hp, if_pos (by omega)]
theorem at_nop (s : ByteArray) (k : Nat) (h : k < s.size) (h0 : bt s k = 1) : optsS (s.extract k s.size) = (optsS (s.extract (k + 1) s.size)).map (((1 : Int), (⟨#[]⟩ : ByteArray)) :: ·) := by
  have hp : 0 < (s.extract k s.size).size := by rw [ex_size]; omega
  have e := ex_get s k 0 hp
  rw [Nat.add_zero, h0] at e
  rw [optsS, dif_pos hp, if_neg (by omega), if_pos (by omega), ex_ex]
theorem at_bad (s : ByteArray) (k : Nat) (h : k < s.size) (h0 : bt s k ≠ 0) (h1 : bt s k ≠ 1) (hb : s.size ≤ k + 1 ∨ bt s (k + 1) < 2 ∨ (s.size : Int) < k + bt s (k + 1)) : optsS (s.extract k s.size) = none := by
  have hp : 0 < (s.extract k s.size).size := by rw [ex_size]; omega
  have e := ex_get s k 0 hp
  rw [Nat.add_zero] at e
  rw [optsS, dif_pos hp, if_neg (by omega), if_neg (by omega)]
  by_cases h2 : 1 < (s.extract k s.size).size
  · have e2 := ex_get s k 1 h2
    have z := ex_size s k
    rw [dif_pos h2, if_pos (by omega)]
  · rw [dif_neg h2]
theorem at_go (s : ByteArray) (k n : Nat) (h : k + 1 < s.size) (h0 : bt s k ≠ 0) (h1 : bt s k ≠ 1) (hn : bt s (k + 1) = (n : Int)) (h2 : 2 ≤ n) (h3 : k + n ≤ s.size) :
    optsS (s.extract k s.size) = (optsS (s.extract (k + n) s.size)).map ((bt s k, s.extract (k + 2) (k + n)) :: ·) := by
  have hp : 0 < (s.extract k s.size).size := by rw [ex_size]; omega
  have hq : 1 < (s.extract k s.size).size := by rw [ex_size]; omega
  have e := ex_get s k 0 hp
  have e2 := ex_get s k 1 hq
  have z := ex_size s k
  rw [Nat.add_zero] at e
  rw [hn] at e2
  have e3 : ((s.extract k s.size)[1]'hq).toNat = n := by omega
  rw [optsS, dif_pos hp, if_neg (by omega), if_neg (by omega), dif_pos hq, if_neg (by omega), e, e3, ex_ex, ex_mid s k n h3]
theorem at_start (s : ByteArray) : s.extract 0 s.size = s := by
  rw [ByteArray.extract_zero_size]

/-- The number that the first option of kind 2 with two bytes tells; -1: there is none. -/
def pick : List (Int × ByteArray) → Int
  | [] => -1
  | (k, d) :: r => if k = 2 ∧ d.size = 2 then 256 * bt d 0 + bt d 1 else pick r
/-- .. where a number is known already, if it is not below 0. -/
def pickN (n : Int) (l : List (Int × ByteArray)) : Int := if n < 0 then pick l else n
theorem pickN_start (l : List (Int × ByteArray)) : pickN (-1) l = pick l := by unfold pickN; rw [if_pos (by decide)]
theorem pickN_nil {n : Int} (h : -1 ≤ n) : pickN n [] = n := by
  unfold pickN pick
  split <;> omega
theorem pickN_one {n k : Int} {d : ByteArray} {r : List (Int × ByteArray)} (h : -1 ≤ n) : pickN n ((k, d) :: r) = pickN (if k = 2 ∧ d.size = 2 ∧ n < 0 then 256 * bt d 0 + bt d 1 else n) r := by
  have a := bt_nonneg d 0
  have b := bt_nonneg d 1
  unfold pickN
  by_cases q : n < 0
  · rw [if_pos q, pick]
    by_cases p : k = 2 ∧ d.size = 2
    · have p3 : k = 2 ∧ d.size = 2 ∧ n < 0 := ⟨p.1, p.2, q⟩
      have lo : ¬ 256 * bt d 0 + bt d 1 < 0 := by omega
      simp only [if_pos p, if_pos p3, if_neg lo]
    · have p3 : ¬ (k = 2 ∧ d.size = 2 ∧ n < 0) := fun x => p ⟨x.1, x.2.1⟩
      simp only [if_neg p, if_neg p3, if_pos q]
  · have p3 : ¬ (k = 2 ∧ d.size = 2 ∧ n < 0) := fun x => q x.2.2
    simp only [if_neg q, if_neg p3]
theorem pick_lo (l : List (Int × ByteArray)) : -1 ≤ pick l ∧ pick l ≤ 65535 := by
  induction l with
  | nil => exact ⟨by decide, by decide⟩
  | cons x r ih =>
    obtain ⟨k, d⟩ := x
    have a := bt_nonneg d 0; have b := bt_nonneg d 1
    have c := bt_le d 0; have e := bt_le d 1
    rw [pick]
    split
    · omega
    · exact ih
theorem bt_extract (s : ByteArray) (a b i : Nat) (h : a + i < b) (hb : b ≤ s.size) : bt (s.extract a b) i = bt s (a + i) := by
  have hi : i < (s.extract a b).size := by rw [ByteArray.size_extract]; omega
  rw [← get_bt (s.extract a b) i hi, ← get_bt s (a + i) (by omega)]
  congr 2
  exact ByteArray.getElem_extract _
/-- What Mss tells: a number and an error. -/
def mss (s : ByteArray) : Int × Int := match optsS s with
  | none => (0, 4)
  | some xs => if pick xs < 0 then (0, 6) else (pick xs, 0)
end Go.Proofs.Ytadjkidjkgnkoaa.OptS
