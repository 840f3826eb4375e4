/- The code's window: plain facts. A ring of bools, cleared in parts. -/
import Derived.Test.YtcfphpcakigekaaWinD
set_option linter.unusedVariables false
namespace Go.Proofs.Ytcfphpcakigekaa.RngD
open Go.Proofs.Ytcfphpcakigekaa.WinD

def wipe : List Bool → Nat → Nat → List Bool
  | r, _, 0 => r
  | r, o, n + 1 => wipe (r.set o false) (o + 1) n
theorem wipe_len : ∀ (n : Nat) (r : List Bool) (o : Nat), (wipe r o n).length = r.length
  | 0, _, _ => rfl
  | n + 1, r, o => by rw [wipe, wipe_len n, List.length_set]
theorem set_get (r : List Bool) (o i : Nat) (b : Bool) (h : o < r.length) : (r.set o b).getD i false = if i = o then b else r.getD i false := by
  rw [List.getD_eq_getElem?_getD, List.getElem?_set, List.getD_eq_getElem?_getD]
  by_cases q : o = i
  · subst q; rw [if_pos rfl, if_pos rfl, if_pos h]; rfl
  · rw [if_neg q, if_neg (fun e => q e.symm)]
theorem set_off (r : List Bool) (o i : Nat) : (r.set o false).getD i false = if i = o then false else r.getD i false := by
  by_cases h : o < r.length
  · exact set_get r o i false h
  · rw [List.set_eq_of_length_le (by omega)]
    by_cases q : i = o
    · rw [if_pos q, List.getD_eq_getElem?_getD, List.getElem?_eq_none (by omega)]; rfl
    · rw [if_neg q]
theorem wipe_get : ∀ (n : Nat) (r : List Bool) (o i : Nat), (wipe r o n).getD i false = if o ≤ i ∧ i < o + n then false else r.getD i false
  | 0, r, o, i => by rw [wipe, if_neg (by omega)]
  | n + 1, r, o, i => by
    rw [wipe, wipe_get n, set_off]
    by_cases h1 : o + 1 ≤ i ∧ i < o + 1 + n
    · rw [if_pos h1, if_pos (by omega)]
    · rw [if_neg h1]
      by_cases h2 : i = o
      · rw [if_pos h2, if_pos (by omega)]
      · rw [if_neg h2, if_neg (by omega)]

/-- The ring when the top is moved from T to n. -/
def moved (S T n : Nat) (r : List Bool) : List Bool :=
  if S ≤ n - T then wipe r 0 S
  else if (T + 1) % S ≤ n % S then wipe r ((T + 1) % S) (n % S + 1 - (T + 1) % S)
  else wipe (wipe r ((T + 1) % S) (S - (T + 1) % S)) 0 (n % S + 1)
theorem moved_len (S T n : Nat) (r : List Bool) : (moved S T n r).length = r.length := by
  unfold moved
  split
  · exact wipe_len _ _ _
  · split
    · exact wipe_len _ _ _
    · rw [wipe_len, wipe_len]
theorem mod_sub {S n d : Nat} (hd : d < S) (hn : d ≤ n) : (n - d) % S = if d ≤ n % S then n % S - d else n % S + S - d := by
  have e := Nat.div_add_mod n S
  have hl := Nat.mod_lt n (show 0 < S by omega)
  generalize n % S = l at *
  generalize n / S = p at *
  by_cases h : d ≤ l
  · rw [if_pos h, show n - d = S * p + (l - d) by omega, Nat.mul_add_mod, Nat.mod_eq_of_lt (by omega)]
  · rw [if_neg h]
    obtain ⟨q, rfl⟩ : ∃ q, p = q + 1 := ⟨p - 1, by
      rcases Nat.eq_zero_or_pos p with z | z
      · subst z; rw [Nat.mul_zero] at e; omega
      · omega⟩
    rw [Nat.mul_add, Nat.mul_one] at e
    rw [show n - d = S * q + (l + S - d) by omega, Nat.mul_add_mod, Nat.mod_eq_of_lt (by omega)]
theorem mod_ne {S n a b : Nat} (ha : a ≤ n) (hb : b ≤ n) (h1 : n - a < S) (h2 : n - b < S) (hab : a ≠ b) : a % S ≠ b % S := by
  have e1 := mod_sub (n := n) h1 (by omega)
  have e2 := mod_sub (n := n) h2 (by omega)
  rw [show n - (n - a) = a by omega] at e1
  rw [show n - (n - b) = b by omega] at e2
  have l := Nat.mod_lt n (show 0 < S by omega)
  rw [e1, e2]
  split <;> split <;> omega
/-- What is new is cleared, what is old stays. -/
theorem moved_get {S T n m : Nat} (r : List Bool) (hT : T < n) (hm : m ≤ n) (hs : n - m < S) : (moved S T n r).getD (m % S) false = if T < m then false else r.getD (m % S) false := by
  have il := Nat.mod_lt m (show 0 < S by omega)
  unfold moved
  by_cases h1 : S ≤ n - T
  · rw [if_pos h1, wipe_get, if_pos (by omega), if_pos (by omega)]
  · have em := mod_sub (n := n) hs (by omega)
    have ef := mod_sub (n := n) (S := S) (d := n - T - 1) (by omega) (by omega)
    rw [show n - (n - m) = m by omega] at em
    rw [show n - (n - T - 1) = T + 1 by omega] at ef
    have l := Nat.mod_lt n (show 0 < S by omega)
    have fl := Nat.mod_lt (T + 1) (show 0 < S by omega)
    rw [if_neg h1]
    generalize n % S = ln at *
    generalize (T + 1) % S = f at *
    generalize m % S = i at *
    by_cases h2 : f ≤ ln
    · rw [if_pos h2, wipe_get]
      by_cases h3 : T < m
      · rw [if_pos h3, if_pos]
        split at em <;> split at ef <;> omega
      · rw [if_neg h3, if_neg]
        split at em <;> split at ef <;> omega
    · rw [if_neg h2, wipe_get, wipe_get]
      by_cases h3 : T < m
      · rw [if_pos h3]
        by_cases h4 : 0 ≤ i ∧ i < 0 + (ln + 1)
        · rw [if_pos h4]
        · rw [if_neg h4, if_pos]
          split at em <;> split at ef <;> omega
      · rw [if_neg h3, if_neg, if_neg]
        · split at em <;> split at ef <;> omega
        · split at em <;> split at ef <;> omega

/-- The ring tells of the accepted numbers L. -/
structure Inv (S : Nat) (L : List Nat) (r : List Bool) : Prop where
  len : r.length = S
  pos : 0 < S
  tell : ∀ n, n ≤ top L → top L - n < S → r.getD (n % S) false = was L n
theorem inv_new {S : Nat} (h : 0 < S) : Inv S [] (List.replicate S false) :=
  ⟨by simp, h, fun n _ _ => by
    rw [List.getD_eq_getElem?_getD, List.getElem?_replicate, if_pos (Nat.mod_lt _ h)]
    rfl⟩
def oldc (S T : Nat) (r : List Bool) (n : Nat) : Bool := !(decide (T < n)) && (decide (S ≤ T - n) || r.getD (n % S) false)
theorem old_eq {S : Nat} {L : List Nat} {r : List Bool} (h : Inv S L r) (n : Nat) : oldc S (top L) r n = old S L n := by
  have p := h.pos
  unfold oldc old left
  by_cases h1 : top L < n
  · have nw : was L n = false := by
      cases q : was L n
      · rfl
      · have := le_top (was_iff.1 q); omega
    rw [nw, decide_eq_true h1]
    by_cases h2 : S ≤ top L
    · rw [decide_eq_true h2, decide_eq_false (show ¬ n ≤ top L - S by omega)]; rfl
    · rw [decide_eq_false h2]; rfl
  · rw [decide_eq_false h1]
    by_cases h2 : S ≤ top L - n
    · rw [decide_eq_true h2, decide_eq_true (show S ≤ top L by omega), decide_eq_true (show n ≤ top L - S by omega)]; rfl
    · rw [decide_eq_false h2, h.tell n (by omega) (by omega)]
      by_cases h3 : S ≤ top L
      · rw [decide_eq_true h3, decide_eq_false (show ¬ n ≤ top L - S by omega)]; rfl
      · rw [decide_eq_false h3]; rfl
/-- The ring behind an accepted number. -/
def put (S T n : Nat) (r : List Bool) : List Bool := (if T < n then moved S T n r else r).set (n % S) true
theorem put_len (S T n : Nat) (r : List Bool) : (put S T n r).length = r.length := by
  unfold put
  rw [List.length_set]
  split
  · exact moved_len _ _ _ _
  · rfl
theorem was_snoc (L : List Nat) (n m : Nat) : was (L ++ [n]) m = (was L m || (n == m)) := by
  unfold was
  rw [List.any_append]
  simp
theorem inv_put {S n : Nat} {L : List Nat} {r : List Bool} (h : Inv S L r) (ho : old S L n = false) : Inv S (L ++ [n]) (put S (top L) n r) := by
  have p := h.pos
  have il := Nat.mod_lt n p
  refine ⟨by rw [put_len]; exact h.len, p, fun m hm hd => ?_⟩
  rw [top_snoc] at hm hd
  rw [was_snoc]
  unfold put
  rw [set_get _ _ _ _ (by split <;> (try rw [moved_len]) <;> rw [h.len] <;> exact il)]
  by_cases e : n = m
  · subst e
    rw [if_pos rfl]; simp
  · have nb : (n == m) = false := beq_eq_false_iff_ne.2 e
    rw [nb, Bool.or_false]
    have ne : m % S ≠ n % S := by
      by_cases h1 : top L < n
      · rw [Nat.max_eq_right (by omega)] at hm hd
        exact mod_ne hm (Nat.le_refl n) hd (by omega) (fun q => e q.symm)
      · rw [Nat.max_eq_left (by omega)] at hm hd
        have : top L - n < S := by
          rcases Nat.lt_or_ge (top L - n) S with q | q
          · exact q
          · exfalso
            unfold old left at ho
            rw [decide_eq_true (show S ≤ top L by omega), decide_eq_true (show n ≤ top L - S by omega)] at ho
            cases ho
        exact mod_ne hm (by omega) hd this (fun q => e q.symm)
    rw [if_neg ne]
    by_cases h1 : top L < n
    · rw [Nat.max_eq_right (by omega)] at hm hd
      rw [if_pos h1, moved_get r h1 hm hd]
      by_cases h2 : top L < m
      · rw [if_pos h2]
        cases q : was L m
        · rfl
        · have := le_top (was_iff.1 q); omega
      · rw [if_neg h2]
        exact h.tell m (by omega) (by omega)
    · rw [Nat.max_eq_left (by omega)] at hm hd
      rw [if_neg h1]
      exact h.tell m hm hd
end Go.Proofs.Ytcfphpcakigekaa.RngD
