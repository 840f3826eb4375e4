/- Codes as plain numbers: a key unlike a byte, the inner and the outer digest. No function is named. -/
import Derived.Test.YtmlihcillheeaaaDoorShaD
set_option linter.unusedVariables false
namespace Go.Proofs.YtmlihcillheeaaaDoor.MacD
open Go.Proofs.YtmlihcillheeaaaDoor.ShaD

/-- A key unlike 64 times a byte. -/
def withK (key : List Nat) (x : Nat) : List Nat := (List.range 64).map fun i => if i < key.length then x ^^^ key.getD i 0 else x
def kOf (key : List Nat) : List Nat := if 64 < key.length then digest key else key
def full (key b : List Nat) : List Nat := digest (withK (kOf key) 92 ++ digest (withK (kOf key) 54 ++ b))
def Byt (l : List Nat) : Prop := ∀ x ∈ l, x < 256
theorem final_len (b : List Nat) : (final b).length = 8 := by
  have : ∀ (n : Nat) (s m : List Nat), s.length = 8 → (bgo n s m).length = 8 := by
    intro n
    induction n with
    | zero => intro s m h; exact h
    | succ n ih => intro s m h; rw [bgo]; exact ih _ _ (round_len _ _)
  exact this _ _ _ (by decide)
theorem final_lt (b : List Nat) : W32 (final b) := by
  have : ∀ (n : Nat) (s m : List Nat), W32 s → W32 (bgo n s m) := by
    intro n
    induction n with
    | zero => intro s m h; exact h
    | succ n ih => intro s m h; rw [bgo]; exact ih _ _ (round_lt _ _)
  exact this _ _ _ (fun x hx => K_lt x (List.mem_of_mem_drop hx))
theorem four_byt {n : Nat} (h : n < M) : ∀ x ∈ four n, x < 256 := by
  intro x hx
  unfold M at h
  simp only [four, List.mem_cons, List.not_mem_nil, or_false] at hx
  omega
theorem digest_len (b : List Nat) : (digest b).length = 32 := by
  have h := final_len b
  unfold digest
  generalize final b = F at *
  match F, h with
  | [a, b, c, d, e, f, g, i], _ => rfl
theorem digest_byt (b : List Nat) : Byt (digest b) := by
  intro x hx
  obtain ⟨y, hy, hx⟩ := List.mem_flatMap.1 hx
  exact four_byt (final_lt b y hy) x hx
theorem withK_len (key : List Nat) (x : Nat) : (withK key x).length = 64 := by simp [withK]
theorem getD_byt {l : List Nat} (h : Byt l) (i : Nat) : l.getD i 0 < 256 := by
  rw [List.getD_eq_getElem?_getD]
  cases e : l[i]? with
  | none => decide
  | some z => exact h z (List.mem_of_getElem? e)
theorem xor_byt {a b : Nat} (h1 : a < 256) (h2 : b < 256) : a ^^^ b < 256 := Nat.xor_lt_two_pow (n := 8) h1 h2
theorem withK_byt {key : List Nat} {x : Nat} (h : Byt key) (hx : x < 256) : Byt (withK key x) := by
  intro y hy
  obtain ⟨i, _, rfl⟩ := List.mem_map.1 hy
  split
  · exact xor_byt hx (getD_byt h i)
  · exact hx
theorem kOf_byt {key : List Nat} (h : Byt key) : Byt (kOf key) := by
  unfold kOf
  split
  · exact digest_byt _
  · exact h
theorem full_len (key b : List Nat) : (full key b).length = 32 := digest_len _
theorem full_byt (key b : List Nat) : Byt (full key b) := digest_byt _
/-- Zeros behind a key turn nothing. -/
theorem withK_more (key : List Nat) (m x : Nat) : withK (key ++ List.replicate m 0) x = withK key x := by
  unfold withK
  apply List.map_congr_left
  intro i _
  rw [List.length_append, List.length_replicate]
  by_cases h1 : i < key.length
  · rw [if_pos h1, if_pos (by omega), List.getD_eq_getElem?_getD, List.getElem?_append_left h1, ← List.getD_eq_getElem?_getD]
  · rw [if_neg h1]
    by_cases h2 : i < key.length + m
    · rw [if_pos h2, List.getD_eq_getElem?_getD, List.getElem?_append_right (by omega), List.getElem?_replicate, if_pos (by omega)]
      simp
    · rw [if_neg h2]
theorem full_more {key : List Nat} {m : Nat} (h : key.length + m ≤ 64) (b : List Nat) : full (key ++ List.replicate m 0) b = full key b := by
  have e1 : kOf (key ++ List.replicate m 0) = key ++ List.replicate m 0 := by
    unfold kOf
    rw [if_neg (by rw [List.length_append, List.length_replicate]; omega)]
  have e2 : kOf key = key := by unfold kOf; rw [if_neg (by omega)]
  unfold full
  rw [e1, e2, withK_more, withK_more]
/-- A long key is as its digest. -/
theorem full_long {key : List Nat} (h : 64 < key.length) (b : List Nat) : full key b = full (digest key) b := by
  have e1 : kOf key = digest key := by unfold kOf; rw [if_pos h]
  have e2 : kOf (digest key) = digest key := by
    unfold kOf
    rw [if_neg (by rw [digest_len]; omega)]
  unfold full
  rw [e1, e2]
end Go.Proofs.YtmlihcillheeaaaDoor.MacD
