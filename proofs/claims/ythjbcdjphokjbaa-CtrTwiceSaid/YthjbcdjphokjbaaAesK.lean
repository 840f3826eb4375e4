/- The keys of a key: plain facts about numbers. No program is named but the kind of its numbers. -/
import Derived.Test.YthjbcdjphokjbaaAesB
set_option linter.unusedVariables false
namespace Go.Proofs.Ythjbcdjphokjbaa.AesK
open Go.Proofs.Ythjbcdjphokjbaa.AesF Go.Proofs.Ythjbcdjphokjbaa.AesB

/-- The word that number i is made from: the four bytes ahead of it, turned or not. -/
def tword (nk i turn : Nat) (o : List Nat) : List Nat :=
  let w := fun k => o.getD (4 * i - 4 + k) 0
  if i % nk = 0 then [Box (w 1) ^^^ turn, Box (w 2), Box (w 3), Box (w 0)]
  else if nk = 8 ∧ i % 8 = 4 then [Box (w 0), Box (w 1), Box (w 2), Box (w 3)]
  else [w 0, w 1, w 2, w 3]
/-- The next constant. -/
def nturn (nk i turn : Nat) : Nat := if i % nk = 0 then T turn 2 else turn
/-- Word number i. -/
def nword (nk i turn : Nat) (o : List Nat) : List Nat := [0, 1, 2, 3].map fun k => (tword nk i turn o).getD k 0 ^^^ o.getD (4 * (i - nk) + k) 0
/-- n words more. -/
def kgo (nk : Nat) : Nat → Nat → Nat → List Nat → List Nat
  | 0, _, _, o => o
  | n + 1, i, turn, o => kgo nk n (i + 1) (nturn nk i turn) (o ++ nword nk i turn o)
def keys (key : List Nat) : List Nat := kgo (key.length / 4) (4 * (key.length / 4 + 7) - key.length / 4) (key.length / 4) 1 key

theorem nword_len (nk i turn : Nat) (o : List Nat) : (nword nk i turn o).length = 4 := rfl
theorem tword_byt {nk i turn : Nat} {o : List Nat} (ho : Byt o) (ht : turn < 256) : Byt (tword nk i turn o) := by
  have B := fun k => Box_lt (ho.get k)
  unfold tword
  intro x hx
  simp only at hx
  repeat' split at hx
  all_goals simp only [List.mem_cons, List.not_mem_nil, or_false] at hx
  · rcases hx with rfl | rfl | rfl | rfl
    · exact xor_lt (B _) ht
    all_goals exact B _
  · rcases hx with rfl | rfl | rfl | rfl
    all_goals exact B _
  · rcases hx with rfl | rfl | rfl | rfl
    all_goals exact ho.get _
theorem nword_byt {nk i turn : Nat} {o : List Nat} (ho : Byt o) (ht : turn < 256) : Byt (nword nk i turn o) := by
  intro x hx
  obtain ⟨k, _, rfl⟩ := List.mem_map.1 hx
  exact xor_lt ((tword_byt ho ht).get k) (ho.get _)
theorem nturn_lt {nk i turn : Nat} (ht : turn < 256) : nturn nk i turn < 256 := by
  unfold nturn
  split
  · exact T_lt ht _
  · exact ht
theorem Byt.app {a b : List Nat} (ha : Byt a) (hb : Byt b) : Byt (a ++ b) := fun x hx => by
  rcases List.mem_append.1 hx with h | h
  · exact ha x h
  · exact hb x h
theorem kgo_byt (nk : Nat) : ∀ (n i turn : Nat) (o : List Nat), turn < 256 → Byt o → Byt (kgo nk n i turn o)
  | 0, _, _, _, _, ho => ho
  | n + 1, i, turn, o, ht, ho => kgo_byt nk n _ _ _ (nturn_lt ht) (Byt.app ho (nword_byt ho ht))
theorem kgo_len (nk : Nat) : ∀ (n i turn : Nat) (o : List Nat), (kgo nk n i turn o).length = o.length + 4 * n
  | 0, _, _, _ => rfl
  | n + 1, i, turn, o => by rw [kgo, kgo_len nk n, List.length_append, nword_len]; omega
theorem kgo_pre (nk : Nat) : ∀ (n i turn : Nat) (o : List Nat), ∃ r, kgo nk n i turn o = o ++ r
  | 0, _, _, o => ⟨[], by rw [kgo, List.append_nil]⟩
  | n + 1, i, turn, o => by
    obtain ⟨r, hr⟩ := kgo_pre nk n (i + 1) (nturn nk i turn) (o ++ nword nk i turn o)
    exact ⟨nword nk i turn o ++ r, by rw [kgo, hr, List.append_assoc]⟩
theorem keys_byt {k : List Nat} (h : Byt k) : Byt (keys k) := kgo_byt _ _ _ _ _ (by decide) h
theorem keys_len {k : List Nat} (h : k.length = 16 ∨ k.length = 32) : (keys k).length = if k.length = 16 then 176 else 240 := by
  unfold keys
  rw [kgo_len]
  rcases h with h | h <;> rw [h] <;> rfl
theorem keys_take (k : List Nat) : (keys k).take k.length = k := by
  obtain ⟨r, hr⟩ := kgo_pre (k.length / 4) (4 * (k.length / 4 + 7) - k.length / 4) (k.length / 4) 1 k
  unfold keys
  rw [hr, List.take_left]
/-- Unlike keys have unlike keys. -/
theorem keys_inj {a b : List Nat} (ha : a.length = 16 ∨ a.length = 32) (hb : b.length = 16 ∨ b.length = 32) (h : keys a = keys b) : a = b := by
  have la := keys_len ha
  have lb := keys_len hb
  have e : a.length = b.length := by
    rw [h, lb] at la
    rcases ha with ha | ha <;> rcases hb with hb | hb <;> rw [ha, hb] at la ⊢ <;> simp at la
  rw [← keys_take a, ← keys_take b, h, e]
/-- The document's examples. -/
theorem times0 : T 87 131 = 193 := by decide +kernel
theorem box0 : Box 83 = 237 := by decide +kernel
theorem block0 : block (keys (row fun i => i)) (row fun i => 17 * i) = [105, 196, 224, 216, 106, 123, 4, 48, 216, 205, 183, 128, 112, 180, 197, 90] := by decide +kernel
end Go.Proofs.Ythjbcdjphokjbaa.AesK
