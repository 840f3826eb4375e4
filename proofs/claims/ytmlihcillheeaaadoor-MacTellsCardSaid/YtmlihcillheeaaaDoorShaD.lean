/- A digest as plain numbers: constants, words, rounds, bytes. No program is named but the kind of its numbers. -/
import Derived.Test.YtmlihcillheeaaaDoorProg
set_option linter.unusedVariables false
namespace Go.Proofs.YtmlihcillheeaaaDoor.ShaD

/-- The constants, as they are published. -/
def K : List Nat := [1116352408, 1899447441, 3049323471, 3921009573, 961987163, 1508970993, 2453635748, 2870763221, 3624381080, 310598401, 607225278, 1426881987, 1925078388, 2162078206, 2614888103, 3248222580, 3835390401, 4022224774, 264347078, 604807628, 770255983, 1249150122, 1555081692, 1996064986, 2554220882, 2821834349, 2952996808, 3210313671, 3336571891, 3584528711, 113926993, 338241895, 666307205, 773529912, 1294757372, 1396182291, 1695183700, 1986661051, 2177026350, 2456956037, 2730485921, 2820302411, 3259730800, 3345764771, 3516065817, 3600352804, 4094571909, 275423344, 430227734, 506948616, 659060556, 883997877, 958139571, 1322822218, 1537002063, 1747873779, 1955562222, 2024104815, 2227730452, 2361852424, 2428436474, 2756734187, 3204031479, 3329325298, 1779033703, 3144134277, 1013904242, 2773480762, 1359893119, 2600822924, 528734635, 1541459225]
def M : Nat := 4294967296
def W32 (l : List Nat) : Prop := ∀ x ∈ l, x < M
/-- A number, turned right. -/
def rot (x n : Nat) : Nat := x / 2 ^ n + x % 2 ^ n * (M / 2 ^ n)
def lo0 (a : Nat) : Nat := rot a 7 ^^^ rot a 18 ^^^ a / 8
def lo1 (b : Nat) : Nat := rot b 17 ^^^ rot b 19 ^^^ b / 1024
def hi0 (a : Nat) : Nat := rot a 2 ^^^ rot a 13 ^^^ rot a 22
def hi1 (x : Nat) : Nat := rot x 6 ^^^ rot x 11 ^^^ rot x 25
def ch (x f g : Nat) : Nat := x &&& f ^^^ (M - 1 - x) &&& g
def maj (a b c : Nat) : Nat := a &&& b ^^^ a &&& c ^^^ b &&& c
/-- The number of four bytes. -/
def be (b : List Nat) (i : Nat) : Nat := 16777216 * b.getD i 0 + 65536 * b.getD (i + 1) 0 + 256 * b.getD (i + 2) 0 + b.getD (i + 3) 0
def wnext (w : List Nat) : Nat := (w.getD (w.length - 16) 0 + lo0 (w.getD (w.length - 15) 0) + w.getD (w.length - 7) 0 + lo1 (w.getD (w.length - 2) 0)) % M
/-- n words more. -/
def wgo : Nat → List Nat → List Nat
  | 0, w => w
  | n + 1, w => wgo n (w ++ [wnext w])
def words (b : List Nat) : List Nat := wgo 48 ((List.range 16).map fun i => be b (4 * i))
/-- A step of a round. -/
def stp (s : List Nat) (k w : Nat) : List Nat :=
  let t := s.getD 7 0 + hi1 (s.getD 4 0) + ch (s.getD 4 0) (s.getD 5 0) (s.getD 6 0) + k + w
  let u := hi0 (s.getD 0 0) + maj (s.getD 0 0) (s.getD 1 0) (s.getD 2 0)
  [(t + u) % M, s.getD 0 0, s.getD 1 0, s.getD 2 0, (s.getD 3 0 + t) % M, s.getD 4 0, s.getD 5 0, s.getD 6 0]
/-- n steps, from number i on. -/
def sgo (w : List Nat) : Nat → Nat → List Nat → List Nat
  | 0, _, s => s
  | n + 1, i, s => sgo w n (i + 1) (stp s (K.getD i 0) (w.getD i 0))
def round (s b : List Nat) : List Nat := (List.range 8).map fun i => ((sgo (words b) 64 0 s).getD i 0 + s.getD i 0) % M
def four (n : Nat) : List Nat := [n / 16777216, n / 65536 % 256, n / 256 % 256, n % 256]
/-- How many zeros. -/
def zeros (n : Nat) : Nat := (119 - n % 64) % 64
def pad (b : List Nat) : List Nat := b ++ 128 :: (List.replicate (zeros b.length) 0 ++ (four (8 * b.length / M) ++ four (8 * b.length % M)))
/-- n blocks. -/
def bgo : Nat → List Nat → List Nat → List Nat
  | 0, s, _ => s
  | n + 1, s, m => bgo n (round s (m.take 64)) (m.drop 64)
def start : List Nat := K.drop 64
def final (b : List Nat) : List Nat := bgo ((pad b).length / 64) start (pad b)
def digest (b : List Nat) : List Nat := (final b).flatMap four

theorem K_len : K.length = 72 := by decide
theorem K_lt : W32 K := by
  have : ∀ i : Fin 72, K.getD i.val 0 < M := by decide +kernel
  intro x hx
  obtain ⟨i, hi, rfl⟩ := List.mem_iff_getElem.1 hx
  have := this ⟨i, by rw [← K_len]; exact hi⟩
  rwa [List.getD_eq_getElem?_getD, List.getElem?_eq_getElem hi] at this
theorem W32.get {l : List Nat} (h : W32 l) (i : Nat) : l.getD i 0 < M := by
  rw [List.getD_eq_getElem?_getD]
  cases e : l[i]? with
  | none => decide
  | some z => exact h z (List.mem_of_getElem? e)
theorem pad_len (b : List Nat) : (pad b).length % 64 = 0 ∧ (pad b).length = b.length + 9 + zeros b.length := by
  have e : (pad b).length = b.length + 9 + zeros b.length := by
    simp only [pad, four, List.length_append, List.length_cons, List.length_replicate, List.length_nil]; omega
  refine ⟨?_, e⟩
  rw [e]; unfold zeros; omega
theorem wgo_len : ∀ (n : Nat) (w : List Nat), (wgo n w).length = w.length + n
  | 0, _ => rfl
  | n + 1, w => by rw [wgo, wgo_len n, List.length_append]; simp; omega
theorem words_len (b : List Nat) : (words b).length = 64 := by unfold words; rw [wgo_len]; simp
theorem wgo_lt : ∀ (n : Nat) (w : List Nat), W32 w → W32 (wgo n w)
  | 0, _, h => h
  | n + 1, w, h => wgo_lt n _ fun x hx => by
    rcases List.mem_append.1 hx with q | q
    · exact h x q
    · rw [List.mem_singleton] at q
      rw [q]
      exact Nat.mod_lt _ (by decide)
theorem be_lt {b : List Nat} (h : ∀ x ∈ b, x < 256) (i : Nat) : be b i < M := by
  have g : ∀ j, b.getD j 0 < 256 := fun j => by
    rw [List.getD_eq_getElem?_getD]
    cases e : b[j]? with
    | none => decide
    | some z => exact h z (List.mem_of_getElem? e)
  have := g i; have := g (i + 1); have := g (i + 2); have := g (i + 3)
  unfold be M
  omega
theorem words_lt {b : List Nat} (h : ∀ x ∈ b, x < 256) : W32 (words b) := wgo_lt _ _ fun x hx => by
  obtain ⟨i, _, rfl⟩ := List.mem_map.1 hx
  exact be_lt h _
theorem stp_len (s : List Nat) (k w : Nat) : (stp s k w).length = 8 := rfl
theorem stp_lt {s : List Nat} (h : W32 s) (k w : Nat) : W32 (stp s k w) := by
  intro x hx
  simp only [stp, List.mem_cons, List.not_mem_nil, or_false] at hx
  rcases hx with rfl | rfl | rfl | rfl | rfl | rfl | rfl | rfl
  · exact Nat.mod_lt _ (by decide)
  · exact h.get _
  · exact h.get _
  · exact h.get _
  · exact Nat.mod_lt _ (by decide)
  · exact h.get _
  · exact h.get _
  · exact h.get _
theorem sgo_lt (w : List Nat) : ∀ (n i : Nat) (s : List Nat), W32 s → W32 (sgo w n i s)
  | 0, _, _, h => h
  | n + 1, i, s, h => sgo_lt w n _ _ (stp_lt h _ _)
theorem sgo_len (w : List Nat) : ∀ (n i : Nat) (s : List Nat), s.length = 8 → (sgo w n i s).length = 8
  | 0, _, _, h => h
  | n + 1, i, s, h => sgo_len w n _ _ (stp_len _ _ _)
theorem round_len (s b : List Nat) : (round s b).length = 8 := by simp [round]
theorem round_lt (s b : List Nat) : W32 (round s b) := by
  intro x hx
  obtain ⟨i, _, rfl⟩ := List.mem_map.1 hx
  exact Nat.mod_lt _ (by decide)
/-- The blocks of two rows, one behind the other. -/
theorem bgo_app : ∀ (n m : Nat) (s a b : List Nat), a.length = 64 * n → bgo (n + m) s (a ++ b) = bgo m (bgo n s a) b
  | 0, m, s, a, b, h => by
    have : a = [] := List.length_eq_zero_iff.1 (by omega)
    rw [this, Nat.zero_add, List.nil_append]; rfl
  | n + 1, m, s, a, b, h => by
    rw [show n + 1 + m = (n + m) + 1 by omega, bgo, bgo]
    rw [List.take_append_of_le_length (by omega), List.drop_append_of_le_length (by omega)]
    exact bgo_app n m _ _ _ (by rw [List.length_drop]; omega)
/-- The document's example. -/
theorem abc : digest [97, 98, 99] = [186, 120, 22, 191, 143, 1, 207, 234, 65, 65, 64, 222, 93, 174, 34, 35, 176, 3, 97, 163, 150, 23, 122, 156, 180, 16, 255, 97, 242, 0, 21, 173] := by decide +kernel
end Go.Proofs.YtmlihcillheeaaaDoor.ShaD
