/- The document's window: plain facts. A size, and the numbers that were accepted. -/
import Derived.Test.YtcfphpcakigekaaLongs
set_option linter.unusedVariables false
namespace Go.Proofs.Ytcfphpcakigekaa.WinD
open Go.RowKit Go.Proofs.Ytcfphpcakigekaa.Longs

/-- The greatest one. -/
def top (l : List Nat) : Nat := l.foldl max 0
theorem top_snoc (l : List Nat) (n : Nat) : top (l ++ [n]) = max (top l) n := by simp [top, List.foldl_append]
theorem top_lt {l : List Nat} (h : ∀ x ∈ l, x < Q64) : top l < Q64 := by
  have : ∀ (l : List Nat) (a : Nat), a < Q64 → (∀ x ∈ l, x < Q64) → l.foldl max a < Q64 := by
    intro l
    induction l with
    | nil => intro a ha _; exact ha
    | cons b l ih =>
      intro a ha hl
      refine ih _ ?_ fun x hx => hl x (List.mem_cons_of_mem _ hx)
      have := hl b (List.mem_cons_self ..)
      rcases Nat.le_total a b with q | q
      · rw [Nat.max_eq_right q]; exact this
      · rw [Nat.max_eq_left q]; exact ha
  exact this l 0 (by decide) h
theorem top_take {l : List Nat} {k : Nat} (h : k < l.length) : top (l.take (k + 1)) = max (top (l.take k)) (l.getD k 0) := by
  rw [List.take_add_one, List.getElem?_eq_getElem h, List.getD_eq_getElem?_getD, List.getElem?_eq_getElem h]
  exact top_snoc _ _
theorem le_top {l : List Nat} {x : Nat} (h : x ∈ l) : x ≤ top l := by
  have : ∀ (l : List Nat) (a : Nat), a ≤ l.foldl max a ∧ ∀ x ∈ l, x ≤ l.foldl max a := by
    intro l
    induction l with
    | nil => intro a; exact ⟨Nat.le_refl _, fun x hx => by cases hx⟩
    | cons b l ih =>
      intro a
      have q := ih (max a b)
      refine ⟨Nat.le_trans (Nat.le_max_left _ _) q.1, fun x hx => ?_⟩
      rcases List.mem_cons.1 hx with rfl | hx
      · exact Nat.le_trans (Nat.le_max_right _ _) q.1
      · exact q.2 x hx
  exact (this l 0).2 x h
theorem top_mem {l : List Nat} (h : top l ≠ 0) : top l ∈ l := by
  have : ∀ (l : List Nat) (a : Nat), l.foldl max a = a ∨ l.foldl max a ∈ l := by
    intro l
    induction l with
    | nil => intro a; exact .inl rfl
    | cons b l ih =>
      intro a
      rcases ih (max a b) with q | q
      · rw [List.foldl_cons, q]
        rcases Nat.le_total a b with z | z
        · rw [Nat.max_eq_right z]; exact .inr (List.mem_cons_self ..)
        · rw [Nat.max_eq_left z]; exact .inl rfl
      · exact .inr (List.mem_cons_of_mem _ q)
  rcases this l 0 with q | q
  · exact absurd q h
  · exact q
/-- Is it left of the window? Was it there? -/
def left (S : Nat) (l : List Nat) (n : Nat) : Bool := decide (S ≤ top l) && decide (n ≤ top l - S)
def was (l : List Nat) (n : Nat) : Bool := l.any fun x => x == n
def old (S : Nat) (l : List Nat) (n : Nat) : Bool := left S l n || was l n
theorem was_iff {l : List Nat} {n : Nat} : was l n = true ↔ n ∈ l := by simp [was, List.any_eq_true]
theorem was_take {l : List Nat} {k n : Nat} (h : k < l.length) : was (l.take (k + 1)) n = (was (l.take k) n || (l.getD k 0 == n)) := by
  rw [List.take_add_one, List.getElem?_eq_getElem h, List.getD_eq_getElem?_getD, List.getElem?_eq_getElem h]
  simp only [Option.toList_some, Option.getD_some]
  rw [was, List.any_append]
  simp only [List.any_cons, List.any_nil, Bool.or_false]
  rfl
/-- What Check answers; what is there after Accept. -/
def chk (S : Nat) (wd : Bool) (l : List Nat) (n : Nat) : Nat := if wd = false ∧ 4294967295 < n then 1 else if n = 0 ∨ old S l n = true then 120 else 0
def acc (S : Nat) (wd : Bool) (l : List Nat) (n : Nat) : List Nat := if chk S wd l n = 0 then l ++ [n] else l
theorem acc_lt {S n : Nat} {wd : Bool} {l : List Nat} (h : ∀ x ∈ l, x < Q64) (hn : n < Q64) : ∀ x ∈ acc S wd l n, x < Q64 := by
  intro x hx
  unfold acc at hx
  split at hx
  · rcases List.mem_append.1 hx with q | q
    · exact h x q
    · simp only [List.mem_singleton] at q
      rw [q]; exact hn
  · exact h x hx
theorem acc_len (S : Nat) (wd : Bool) (l : List Nat) (n : Nat) : (acc S wd l n).length ≤ l.length + 1 := by
  unfold acc
  split
  · simp
  · omega
/-- What the high half is, as an int: t the top. -/
def hi (S t low : Nat) : Int :=
  if (S : Int) - 1 ≤ ((t % 4294967296 : Nat) : Int) then (if (low : Int) < ((t % 4294967296 : Nat) : Int) - S + 1 then ((t / 4294967296 : Nat) : Int) + 1 else ((t / 4294967296 : Nat) : Int))
  else if 4294967296 + ((t % 4294967296 : Nat) : Int) - S + 1 ≤ (low : Int) then ((t / 4294967296 : Nat) : Int) - 1 else ((t / 4294967296 : Nat) : Int)
/-- What Infer answers: the number and the errno. -/
def inf (S : Nat) (wd : Bool) (l : List Nat) (low : Int) : Nat × Nat :=
  if low < 0 ∨ 4294967295 < low then (0, 1) else if wd = false then (low.toNat, 0)
  else if hi S (top l) low.toNat < 0 ∨ 4294967295 < hi S (top l) low.toNat then (0, 120) else (4294967296 * (hi S (top l) low.toNat).toNat + low.toNat, 0)
end Go.Proofs.Ytcfphpcakigekaa.WinD
