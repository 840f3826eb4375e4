/- How a row of n bytes is cut into pieces: plain numbers. No program is named. -/
import Derived.Test.YtnpggkpcadefjaaDoorSums
set_option linter.unusedVariables false
namespace Go.Proofs.YtnpggkpcadefjaaDoor.SplD

/-- How many bytes go into the piece that begins at a: o bytes of options in the first one, lat in the others. -/
def room (m o lat a : Nat) : Nat := m - 20 - (if a = 0 then o else lat)
/-- Where each piece begins, and how long it is. -/
def cuts (m o lat n : Nat) : Nat → Nat → List (Nat × Nat)
  | 0, _ => []
  | f + 1, a => if n - a ≤ room m o lat a then [(a, n - a)] else (a, room m o lat a / 8 * 8) :: cuts m o lat n f (a + room m o lat a / 8 * 8)
structure Wide (m o lat : Nat) : Prop where
  first : 28 + o ≤ m
  other : 28 + lat ≤ m
section
variable {m o lat n : Nat}
theorem room_lo (h : Wide m o lat) (a : Nat) : 8 ≤ room m o lat a := by
  have := h.first
  have := h.other
  unfold room
  split <;> omega
theorem room_hi (h : Wide m o lat) (a : Nat) : 20 + (if a = 0 then o else lat) + room m o lat a = m := by
  have := h.first
  have := h.other
  unfold room
  split <;> omega
theorem cuts_one {f a : Nat} (h : n - a ≤ room m o lat a) : cuts m o lat n (f + 1) a = [(a, n - a)] := by
  rw [cuts, if_pos h]
theorem cuts_more {f a : Nat} (h : ¬ n - a ≤ room m o lat a) : cuts m o lat n (f + 1) a = (a, room m o lat a / 8 * 8) :: cuts m o lat n f (a + room m o lat a / 8 * 8) := by
  rw [cuts, if_neg h]
theorem cuts_some (f a : Nat) (h : 0 < f) : 0 < (cuts m o lat n f a).length := by
  obtain ⟨f, rfl⟩ : ∃ g, f = g + 1 := ⟨f - 1, by omega⟩
  rw [cuts]
  split <;> simp
theorem cuts_head (f a : Nat) (h : 0 < f) : ∃ k, (cuts m o lat n f a)[0]? = some (a, k) := by
  obtain ⟨f, rfl⟩ : ∃ g, f = g + 1 := ⟨f - 1, by omega⟩
  rw [cuts]
  split
  · exact ⟨_, rfl⟩
  · exact ⟨_, rfl⟩
theorem cuts_len : ∀ f a : Nat, (cuts m o lat n f a).length ≤ f := by
  intro f
  induction f with
  | zero => intro a; exact Nat.le_refl _
  | succ f ih =>
    intro a
    rw [cuts]
    split
    · simp
    · rw [List.length_cons]
      exact Nat.succ_le_succ (ih _)
/-- What each piece is. -/
theorem cuts_each (hw : Wide m o lat) : ∀ (f a : Nat), a ≤ n → n - a < 8 * f → ∀ (i b k : Nat), (cuts m o lat n f a)[i]? = some (b, k) →
    a ≤ b ∧ b + k ≤ n ∧ k ≤ room m o lat b ∧ (i = 0 → b = a) ∧ (0 < i → 8 ≤ b) ∧ b % 8 = a % 8 ∧
    ((i + 1 < (cuts m o lat n f a).length ∧ k = room m o lat b / 8 * 8 ∧ b + k < n ∧ ∃ k', (cuts m o lat n f a)[i + 1]? = some (b + k, k')) ∨ (i + 1 = (cuts m o lat n f a).length ∧ b + k = n)) := by
  intro f
  induction f with
  | zero => intro a _ h; omega
  | succ f ih =>
    intro a ha hf i b k hi
    have lo := room_lo hw a
    by_cases q : n - a ≤ room m o lat a
    · rw [cuts_one q] at hi ⊢
      cases i with
      | zero =>
        obtain ⟨rfl, rfl⟩ : a = b ∧ n - a = k := by simpa using hi
        exact ⟨Nat.le_refl _, by omega, q, fun _ => rfl, fun h => by omega, rfl, .inr ⟨rfl, by omega⟩⟩
      | succ i => simp at hi
    · rw [cuts_more q] at hi ⊢
      obtain ⟨s, hs⟩ : ∃ s, s = room m o lat a / 8 * 8 := ⟨_, rfl⟩
      rw [← hs] at hi ⊢
      have hs8 : 8 ≤ s := by omega
      have hsr : s ≤ room m o lat a := by omega
      have f0 : 0 < f := by omega
      cases i with
      | zero =>
        obtain ⟨rfl, rfl⟩ : a = b ∧ s = k := by simpa using hi
        obtain ⟨k', hk'⟩ := cuts_head (m := m) (o := o) (lat := lat) (n := n) f (a + s) f0
        have hl := cuts_some (m := m) (o := o) (lat := lat) (n := n) f (a + s) f0
        exact ⟨Nat.le_refl _, by omega, hsr, fun _ => rfl, fun h => by omega, rfl, .inl ⟨by simp; omega, hs, by omega, k', by simpa using hk'⟩⟩
      | succ i =>
        rw [List.getElem?_cons_succ] at hi
        obtain ⟨h1, h2, h3, h4, h5, h8, h6⟩ := ih (a + s) (by omega) (by omega) i b k hi
        refine ⟨by omega, h2, h3, fun h => by omega, fun _ => by omega, by omega, ?_⟩
        simp only [List.length_cons, List.getElem?_cons_succ]
        rcases h6 with ⟨p1, p2, p3⟩ | ⟨p1, p2⟩
        · exact .inl ⟨by omega, p2, p3⟩
        · exact .inr ⟨by omega, p2⟩
/-- One behind the other they are all. -/
theorem cuts_all {α : Type} (l : List α) (hl : l.length = n) (hw : Wide m o lat) : ∀ (f a : Nat), a ≤ n → n - a < 8 * f → (cuts m o lat n f a).flatMap (fun q => (l.drop q.1).take q.2) = l.drop a := by
  intro f
  induction f with
  | zero => intro a _ h; omega
  | succ f ih =>
    intro a ha hf
    have lo := room_lo hw a
    by_cases q : n - a ≤ room m o lat a
    · rw [cuts_one q, List.flatMap_cons, List.flatMap_nil, List.append_nil, List.take_of_length_le (by rw [List.length_drop]; omega)]
    · rw [cuts_more q, List.flatMap_cons, ih _ (by omega) (by omega), ← List.drop_drop]
      exact List.take_append_drop _ _
/-- With more room there are no more. -/
theorem cuts_fewer {m' : Nat} (hl : lat ≤ o) (hw : Wide m o lat) (hm : m ≤ m') : ∀ (f f' a a' : Nat), a ≤ a' → a ≤ n → n - a < 8 * f → n - a' < 8 * f' → (cuts m' o lat n f' a').length ≤ (cuts m o lat n f a).length := by
  have hw' : Wide m' o lat := ⟨Nat.le_trans hw.first hm, Nat.le_trans hw.other hm⟩
  intro f
  induction f with
  | zero => intro f' a a' _ _ h; omega
  | succ f ih =>
    intro f' a a' haa ha hf hf'
    obtain ⟨g, rfl⟩ : ∃ g, f' = g + 1 := ⟨f' - 1, by omega⟩
    have lo := room_lo hw a
    have lo' := room_lo hw' a'
    have hr : room m o lat a ≤ room m' o lat a' := by
      have := hw.first
      have := hw.other
      unfold room
      split <;> split <;> omega
    by_cases q' : n - a' ≤ room m' o lat a'
    · rw [cuts_one q']
      exact cuts_some _ _ (Nat.succ_pos _)
    · have q : ¬ n - a ≤ room m o lat a := by omega
      rw [cuts_more q, cuts_more q', List.length_cons, List.length_cons]
      exact Nat.succ_le_succ (ih g _ _ (by omega) (by omega) (by omega) (by omega))
/-- How many steps it takes: as a loop counts them. -/
theorem cuts_count (hw : Wide m o o) {f a : Nat} (ha : a ≤ n) (hf : n - a < 8 * f) (h : ¬ n - a ≤ room m o o a) : 0 < f - 1 ∧ (cuts m o o n f a).length = (cuts m o o n (f - 1) (a + (m - 20 - o) / 8 * 8)).length + 1 := by
  have lo := room_lo hw a
  obtain ⟨g, rfl⟩ : ∃ g, f = g + 1 := ⟨f - 1, by omega⟩
  have e : room m o o a = m - 20 - o := by unfold room; split <;> rfl
  refine ⟨by omega, ?_⟩
  rw [cuts_more h, e, List.length_cons]
  rfl
end
end Go.Proofs.YtnpggkpcadefjaaDoor.SplD
