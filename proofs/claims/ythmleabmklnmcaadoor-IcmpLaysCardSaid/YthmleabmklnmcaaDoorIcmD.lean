/- A message about packets as plain numbers: its fields, its bytes, its check; what is wrong with bytes; laid down and read; its kind; one of a kind. No program is named but the kind of its numbers. -/
import Derived.Test.YthmleabmklnmcaaDoorAhead
set_option linter.unusedVariables false
namespace Go.Proofs.YthmleabmklnmcaaDoor.IcmD
open Go.RowKit Go.Proofs.YthmleabmklnmcaaDoor.Sums Go.Proofs.YthmleabmklnmcaaDoor.Mem Go.Proofs.YthmleabmklnmcaaDoor.Ahead

structure Ic where
  typ : Int
  code : Int
  rest : Int
def Ic.zero : Ic := ⟨0, 0, 0⟩
def Ic.ok (p : Ic) : Bool := wi p.typ 255 && (wi p.code 255 && wi p.rest 4294967295)
/-- What Bytes says of it, with n bytes of data. -/
def Ic.err (p : Ic) (s d : ByteArray) (n : Nat) : Int := if (p.ok && paired s d) = true then (if 65535 < 8 + n then 2 else 0) else 1
structure Valid (p : Ic) : Prop where
  t0 : 0 ≤ p.typ
  t1 : p.typ ≤ 255
  c0 : 0 ≤ p.code
  c1 : p.code ≤ 255
  r0 : 0 ≤ p.rest
  r1 : p.rest ≤ 4294967295
theorem Ic.ok_valid {p : Ic} (h : p.ok = true) : Valid p := by
  simp only [Ic.ok, wi, Bool.and_eq_true, decide_eq_true_eq] at h
  obtain ⟨⟨a, b⟩, ⟨c, d⟩, e, f⟩ := h
  exact ⟨a, b, c, d, e, f⟩
theorem Valid.ok {p : Ic} (h : Valid p) : p.ok = true := by
  simp only [Ic.ok, wi, Bool.and_eq_true, decide_eq_true_eq]
  exact ⟨⟨h.t0, h.t1⟩, ⟨h.c0, h.c1⟩, h.r0, h.r1⟩
theorem Ic.err_zero {p : Ic} {s d : ByteArray} {n : Nat} (h : p.err s d n = 0) : Valid p ∧ paired s d = true ∧ 8 + n ≤ 65535 := by
  unfold Ic.err at h
  split at h
  · next q =>
    rw [Bool.and_eq_true] at q
    split at h
    · cases h
    · exact ⟨Ic.ok_valid q.1, q.2, by omega⟩
  · cases h
theorem Ic.err_make {p : Ic} {s d : ByteArray} {n : Nat} (h : Valid p) (hp : paired s d = true) (k : 8 + n ≤ 65535) : p.err s d n = 0 := by
  unfold Ic.err
  rw [h.ok, hp, if_pos (show (true && true) = true from rfl), if_neg (by omega)]

/-- All of it, with a number in the place of the check. -/
def Ic.raw (p : Ic) (k : Int) (l : List Int) : List Int :=
  p.typ :: p.code :: k / 256 :: k % 256 :: p.rest / 16777216 :: p.rest / 65536 % 256 :: p.rest / 256 % 256 :: p.rest % 256 :: l
/-- What is summed. -/
def summ (s d : ByteArray) (l : List Int) : Int := if s.size = 16 then whole s d 58 l else sums 0 l
def Ic.sum (p : Ic) (s d : ByteArray) (l : List Int) : Int := 65535 - summ s d (p.raw 0 l)
def Ic.bytes (p : Ic) (s d : ByteArray) (l : List Int) : List Int := p.raw (p.sum s d l) l
theorem summ_in (s d : ByteArray) (l : List Int) : 0 ≤ summ s d l ∧ summ s d l ≤ 65535 := by
  unfold summ
  split
  · exact whole_in _ _ _ _
  · exact sums_in _ 0 (by omega) (by omega)
theorem Ic.sum_in (p : Ic) (s d : ByteArray) (l : List Int) : 0 ≤ p.sum s d l ∧ p.sum s d l ≤ 65535 := by
  have := summ_in s d (p.raw 0 l)
  unfold Ic.sum
  omega
theorem raw_len (p : Ic) (k : Int) (l : List Int) : (p.raw k l).length = 8 + l.length := by
  simp only [Ic.raw, List.length_cons]; omega
theorem raw_bytes {p : Ic} (h : Valid p) {k : Int} (k0 : 0 ≤ k) (k1 : k ≤ 65535) {l : List Int} (hl : Bytes l) : Bytes (p.raw k l) := by
  obtain ⟨t0, t1, c0, c1, r0, r1⟩ := h
  intro y hy
  simp only [Ic.raw, List.mem_cons] at hy
  rcases hy with rfl | rfl | rfl | rfl | rfl | rfl | rfl | rfl | hy
  all_goals first | omega | exact hl y hy
theorem raw_tot (p : Ic) (k : Int) (l : List Int) : tot (p.raw k l) = tot (p.raw 0 l) + k := by
  simp only [Ic.raw, tot]
  omega
theorem bytes_len (p : Ic) (s d : ByteArray) (l : List Int) : (p.bytes s d l).length = 8 + l.length := raw_len _ _ _
theorem bytes_bytes {p : Ic} (h : Valid p) (s d : ByteArray) {l : List Int} (hl : Bytes l) : Bytes (p.bytes s d l) := raw_bytes h (p.sum_in s d l).1 (p.sum_in s d l).2 hl
theorem plain_fold0 {t k : Int} (h : 0 ≤ t) (e : k = 65535 - fold t) : fold (t + k) = 65535 := by
  subst e
  unfold fold
  repeat' split
  all_goals omega
theorem bytes_summ {p : Ic} (h : Valid p) {s d : ByteArray} (hp : paired s d = true) {l : List Int} (hl : Bytes l) (hn : 8 + l.length ≤ 65535) : summ s d (p.bytes s d l) = 65535 := by
  have b0 : Bytes (p.raw 0 l) := raw_bytes h (by decide) (by decide) hl
  have l0 := raw_len p 0 l
  have ln := bytes_len p s d l
  have t1 := tot_lo _ b0
  have e2 : tot (p.bytes s d l) = tot (p.raw 0 l) + p.sum s d l := raw_tot _ _ _
  unfold summ
  by_cases q : s.size = 16
  · rw [if_pos q]
    have e : p.sum s d l = 65535 - fold (tot (Ahead.ahead s d 58 ((8 + l.length : Nat) : Int)) + tot (p.raw 0 l)) := by
      unfold Ic.sum summ
      rw [if_pos q, whole_fold (by decide) (by decide) b0 (by omega), l0]
    rw [whole_fold (by decide) (by decide) (bytes_bytes h s d hl) (by omega), ln]
    have t0 := ahead_pos hp (p := 58) (n := ((8 + l.length : Nat) : Int)) (by decide) (by omega)
    rw [e2, ← Int.add_assoc]
    exact plain_fold (by omega) e
  · rw [if_neg q]
    have e : p.sum s d l = 65535 - fold (tot (p.raw 0 l)) := by
      unfold Ic.sum summ
      rw [if_neg q, sums_tot b0]
    rw [sums_tot (bytes_bytes h s d hl), e2]
    exact plain_fold0 t1 e

/-- What is wrong with bytes. -/
def perr (l : List Int) (s d : ByteArray) : Int := if paired s d = false then 1 else if l.length < 8 then 8 else if 65535 < l.length then 2 else if summ s d l ≠ 65535 then 5 else 0
/-- The message of some bytes. -/
def icOf (l : List Int) : Ic := ⟨l.getD 0 0, l.getD 1 0, w32 l 4⟩
theorem raw_ic {p : Ic} (h : Valid p) (k : Int) (l : List Int) : icOf (p.raw k l) = p := by
  have a : w32 (p.raw k l) 4 = p.rest := by
    have := h.r0; have := h.r1
    simp only [w32, w16, Ic.raw, List.getD_cons_zero, List.getD_cons_succ]
    omega
  unfold icOf
  rw [a]
  rfl
theorem raw_data (p : Ic) (k : Int) (l : List Int) : (p.raw k l).drop 8 = l := rfl
theorem bytes_perr {p : Ic} {s d : ByteArray} {l : List Int} (h : p.err s d l.length = 0) (hl : Bytes l) : perr (p.bytes s d l) s d = 0 := by
  obtain ⟨V, hp, hn⟩ := Ic.err_zero h
  have ln := bytes_len p s d l
  unfold perr
  rw [ln, if_neg (by rw [hp]; decide), if_neg (by omega), if_neg (by omega), if_neg (by rw [bytes_summ V hp hl hn]; simp)]
theorem ic_valid {l : List Int} (hl : Bytes l) : Valid (icOf l) := by
  have a := getD_in hl 0; have b := getD_in hl 1; have c := w32_in hl 4
  exact ⟨a.1, a.2, b.1, b.2, c.1, c.2⟩

/-! ### Kinds -/
def kind (t c : Int) (wide : Bool) : Int :=
  if wide then (if t = 128 ∧ c = 0 then 1 else if t = 129 ∧ c = 0 then 2 else if t = 1 then 3 else if t = 2 then 4 else if t = 3 then 5 else if t = 4 then 6 else 0)
  else (if t = 8 ∧ c = 0 then 1 else if t = 0 ∧ c = 0 then 2 else if t = 3 ∧ c = 4 then 4 else if t = 3 then 3 else if t = 11 then 5 else if t = 12 then 6 else 0)
theorem kind_in (t c : Int) (w : Bool) : 0 ≤ kind t c w ∧ kind t c w ≤ 6 := by
  unfold kind
  repeat' split
  all_goals omega
/-- The Type and the Code of one of a kind. -/
def made (k : Int) (wide : Bool) : Int × Int :=
  if wide then (if k = 1 then (128, 0) else if k = 2 then (129, 0) else if k = 3 then (1, 0) else if k = 4 then (2, 0) else if k = 5 then (3, 0) else (4, 0))
  else (if k = 1 then (8, 0) else if k = 2 then (0, 0) else if k = 3 then (3, 1) else if k = 4 then (3, 4) else if k = 5 then (11, 0) else (12, 0))
theorem made_kind {k : Int} (h : 1 ≤ k) (h2 : k ≤ 6) (w : Bool) : kind (made k w).1 (made k w).2 w = k := by
  rcases (show k = 1 ∨ k = 2 ∨ k = 3 ∨ k = 4 ∨ k = 5 ∨ k = 6 by omega) with rfl | rfl | rfl | rfl | rfl | rfl <;> cases w <;> decide
theorem made_in (k : Int) (w : Bool) : 0 ≤ (made k w).1 ∧ (made k w).1 ≤ 255 ∧ 0 ≤ (made k w).2 ∧ (made k w).2 ≤ 255 := by
  unfold made
  repeat' split
  all_goals decide
/-- What Make says. -/
def mkErr (k rest : Int) : Int := if 1 ≤ k ∧ k ≤ 6 ∧ 0 ≤ rest ∧ rest ≤ 4294967295 then 0 else 1
/-- Does a kind tell of an error? -/
def tells (k : Int) : Bool := decide (3 ≤ k) && decide (k ≤ 6)

/-! The document's way: all Types and Codes are looked through, the greatest first. -/
def look (k : Int) (w : Bool) (t c : Int) (m : Int × Int) : Int × Int := if kind t c w = k then (t, c) else m
/-- The Codes below n of a Type. -/
def inner (k : Int) (w : Bool) (t : Int) : Nat → Int × Int → Int × Int
  | 0, m => m
  | n + 1, m => inner k w t n (look k w t n m)
/-- The Types below n. -/
def outer (k : Int) (w : Bool) : Nat → Int × Int → Int × Int
  | 0, m => m
  | n + 1, m => outer k w n (inner k w n 5 m)
def found (k : Int) (w : Bool) : Int × Int := if k = 3 ∧ w = false then (3, 0) else made k w
theorem outer_all {k : Int} (h : 1 ≤ k) (h2 : k ≤ 6) (w : Bool) : outer k w 256 (0, 0) = found k w := by
  rcases (show k = 1 ∨ k = 2 ∨ k = 3 ∨ k = 4 ∨ k = 5 ∨ k = 6 by omega) with rfl | rfl | rfl | rfl | rfl | rfl <;> cases w <;> decide +kernel
end Go.Proofs.YthmleabmklnmcaaDoor.IcmD
