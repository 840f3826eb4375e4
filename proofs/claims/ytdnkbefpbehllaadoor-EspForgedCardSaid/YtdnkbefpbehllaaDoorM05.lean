/- A digest as plain numbers: constants, words, rounds, bytes. No program is named but the kind of its numbers. -/
import Derived.Test.YtdnkbefpbehllaaDoorProg
import Derived.Test.YtdnkbefpbehllaaDoorM04
import Derived.Test.YtdnkbefpbehllaaDoorM02
import Derived.LoopTactic
import Derived.Lib.QuietBelow
import Derived.BigQuiet
import Derived.Deep.QuietTactic
import Derived.PlainAid
set_option linter.unusedVariables false
namespace Go.Proofs.YtdnkbefpbehllaaDoor.ShaD

/-- The constants, as they are published. -/
def K : List Nat := [1116352408, 1899447441, 3049323471, 3921009573, 961987163, 1508970993, 2453635748, 2870763221, 3624381080, 310598401, 607225278, 1426881987, 1925078388, 2162078206, 2614888103, 3248222580, 3835390401, 4022224774, 264347078, 604807628, 770255983, 1249150122, 1555081692, 1996064986, 2554220882, 2821834349, 2952996808, 3210313671, 3336571891, 3584528711, 113926993, 338241895, 666307205, 773529912, 1294757372, 1396182291, 1695183700, 1986661051, 2177026350, 2456956037, 2730485921, 2820302411, 3259730800, 3345764771, 3516065817, 3600352804, 4094571909, 275423344, 430227734, 506948616, 659060556, 883997877, 958139571, 1322822218, 1537002063, 1747873779, 1955562222, 2024104815, 2227730452, 2361852424, 2428436474, 2756734187, 3204031479, 3329325298, 1779033703, 3144134277, 1013904242, 2773480762, 1359893119, 2600822924, 528734635, 1541459225]
def M : Nat := 4294967296
def W32 (l : List Nat) : Prop := ∀ x ∈ l, x < M
/-- A number, turned right. -/
def rot (x n : Nat) : Nat := x / 2 ^ n + x % 2 ^ n * (M / 2 ^ n)
def lo0 (a : Nat) : Nat := rot a 7 ^^^ rot a 18 ^^^ a / 8
def lo1 (b : Nat) : Nat := rot b 17 ^^^ rot b 19 ^^^ b / 1024
def hi0 (a : Nat) : Nat := rot a 2 ^^^ rot a 13 ^^^ rot a 22
def hi1 (x : Nat) : Nat := rot x 6 ^^^ rot x 11 ^^^ rot x 25
def ch (x f g : Nat) : Nat := x &&& f ^^^ (M - 1 - x) &&& g
def maj (a b c : Nat) : Nat := a &&& b ^^^ a &&& c ^^^ b &&& c
/-- The number of four bytes. -/
def be (b : List Nat) (i : Nat) : Nat := 16777216 * b.getD i 0 + 65536 * b.getD (i + 1) 0 + 256 * b.getD (i + 2) 0 + b.getD (i + 3) 0
def wnext (w : List Nat) : Nat := (w.getD (w.length - 16) 0 + lo0 (w.getD (w.length - 15) 0) + w.getD (w.length - 7) 0 + lo1 (w.getD (w.length - 2) 0)) % M
/-- n words more. -/
def wgo : Nat → List Nat → List Nat
  | 0, w => w
  | n + 1, w => wgo n (w ++ [wnext w])
def words (b : List Nat) : List Nat := wgo 48 ((List.range 16).map fun i => be b (4 * i))
/-- A step of a round. -/
def stp (s : List Nat) (k w : Nat) : List Nat :=
  let t := s.getD 7 0 + hi1 (s.getD 4 0) + ch (s.getD 4 0) (s.getD 5 0) (s.getD 6 0) + k + w
  let u := hi0 (s.getD 0 0) + maj (s.getD 0 0) (s.getD 1 0) (s.getD 2 0)
  [(t + u) % M, s.getD 0 0, s.getD 1 0, s.getD 2 0, (s.getD 3 0 + t) % M, s.getD 4 0, s.getD 5 0, s.getD 6 0]
/-- n steps, from number i on. -/
def sgo (w : List Nat) : Nat → Nat → List Nat → List Nat
  | 0, _, s => s
  | n + 1, i, s => sgo w n (i + 1) (stp s (K.getD i 0) (w.getD i 0))
def round (s b : List Nat) : List Nat := (List.range 8).map fun i => ((sgo (words b) 64 0 s).getD i 0 + s.getD i 0) % M
def four (n : Nat) : List Nat := [n / 16777216, n / 65536 % 256, n / 256 % 256, n % 256]
/-- How many zeros. -/
def zeros (n : Nat) : Nat := (119 - n % 64) % 64
def pad (b : List Nat) : List Nat := b ++ 128 :: (List.replicate (zeros b.length) 0 ++ (four (8 * b.length / M) ++ four (8 * b.length % M)))
/-- n blocks. -/
def bgo : Nat → List Nat → List Nat → List Nat
  | 0, s, _ => s
  | n + 1, s, m => bgo n (round s (m.take 64)) (m.drop 64)
def start : List Nat := K.drop 64
def final (b : List Nat) : List Nat := bgo ((pad b).length / 64) start (pad b)
def digest (b : List Nat) : List Nat := (final b).flatMap four

theorem K_len : K.length = 72 := by decide
theorem K_lt : W32 K := by
  have : ∀ i : Fin 72, K.getD i.val 0 < M := by decide +kernel
  intro x hx
  obtain ⟨i, hi, rfl⟩ := List.mem_iff_getElem.1 hx
  have := this ⟨i, by rw [← K_len]; exact hi⟩
  rwa [List.getD_eq_getElem?_getD, List.getElem?_eq_getElem hi] at this
theorem W32.get {l : List Nat} (h : W32 l) (i : Nat) : l.getD i 0 < M := by
  rw [List.getD_eq_getElem?_getD]
  cases e : l[i]? with
  | none => decide
  | some z => exact h z (List.mem_of_getElem? e)
theorem pad_len (b : List Nat) : (pad b).length % 64 = 0 ∧ (pad b).length = b.length + 9 + zeros b.length := by
  have e : (pad b).length = b.length + 9 + zeros b.length := by
    simp only [pad, four, List.length_append, List.length_cons, List.length_replicate, List.length_nil]; omega
  refine ⟨?_, e⟩
  rw [e]; unfold zeros; omega
theorem wgo_len : ∀ (n : Nat) (w : List Nat), (wgo n w).length = w.length + n
  | 0, _ => rfl
  | n + 1, w => by rw [wgo, wgo_len n, List.length_append]; simp; omega
theorem words_len (b : List Nat) : (words b).length = 64 := by unfold words; rw [wgo_len]; simp
theorem wgo_lt : ∀ (n : Nat) (w : List Nat), W32 w → W32 (wgo n w)
  | 0, _, h => h
  | n + 1, w, h => wgo_lt n _ fun x hx => by
    rcases List.mem_append.1 hx with q | q
    · exact h x q
    · rw [List.mem_singleton] at q
      rw [q]
      exact Nat.mod_lt _ (by decide)
theorem be_lt {b : List Nat} (h : ∀ x ∈ b, x < 256) (i : Nat) : be b i < M := by
  have g : ∀ j, b.getD j 0 < 256 := fun j => by
    rw [List.getD_eq_getElem?_getD]
    cases e : b[j]? with
    | none => decide
    | some z => exact h z (List.mem_of_getElem? e)
  have := g i; have := g (i + 1); have := g (i + 2); have := g (i + 3)
  unfold be M
  omega
theorem words_lt {b : List Nat} (h : ∀ x ∈ b, x < 256) : W32 (words b) := wgo_lt _ _ fun x hx => by
  obtain ⟨i, _, rfl⟩ := List.mem_map.1 hx
  exact be_lt h _
theorem stp_len (s : List Nat) (k w : Nat) : (stp s k w).length = 8 := rfl
theorem stp_lt {s : List Nat} (h : W32 s) (k w : Nat) : W32 (stp s k w) := by
  intro x hx
  simp only [stp, List.mem_cons, List.not_mem_nil, or_false] at hx
  rcases hx with rfl | rfl | rfl | rfl | rfl | rfl | rfl | rfl
  · exact Nat.mod_lt _ (by decide)
  · exact h.get _
  · exact h.get _
  · exact h.get _
  · exact Nat.mod_lt _ (by decide)
  · exact h.get _
  · exact h.get _
  · exact h.get _
theorem sgo_lt (w : List Nat) : ∀ (n i : Nat) (s : List Nat), W32 s → W32 (sgo w n i s)
  | 0, _, _, h => h
  | n + 1, i, s, h => sgo_lt w n _ _ (stp_lt h _ _)
theorem sgo_len (w : List Nat) : ∀ (n i : Nat) (s : List Nat), s.length = 8 → (sgo w n i s).length = 8
  | 0, _, _, h => h
  | n + 1, i, s, h => sgo_len w n _ _ (stp_len _ _ _)
theorem round_len (s b : List Nat) : (round s b).length = 8 := by simp [round]
theorem round_lt (s b : List Nat) : W32 (round s b) := by
  intro x hx
  obtain ⟨i, _, rfl⟩ := List.mem_map.1 hx
  exact Nat.mod_lt _ (by decide)
/-- The blocks of two rows, one behind the other. -/
theorem bgo_app : ∀ (n m : Nat) (s a b : List Nat), a.length = 64 * n → bgo (n + m) s (a ++ b) = bgo m (bgo n s a) b
  | 0, m, s, a, b, h => by
    have : a = [] := List.length_eq_zero_iff.1 (by omega)
    rw [this, Nat.zero_add, List.nil_append]; rfl
  | n + 1, m, s, a, b, h => by
    rw [show n + 1 + m = (n + m) + 1 by omega, bgo, bgo]
    rw [List.take_append_of_le_length (by omega), List.drop_append_of_le_length (by omega)]
    exact bgo_app n m _ _ _ (by rw [List.length_drop]; omega)
/-- The document's example. -/
theorem abc : digest [97, 98, 99] = [186, 120, 22, 191, 143, 1, 207, 234, 65, 65, 64, 222, 93, 174, 34, 35, 176, 3, 97, 163, 150, 23, 122, 156, 180, 16, 255, 97, 242, 0, 21, 173] := by decide +kernel
end Go.Proofs.YtdnkbefpbehllaaDoor.ShaD

/- Contracts of the document: power, turn, Constants, Constant, State, Ints. -/
set_option linter.unusedVariables false
namespace Go.Proofs.YtdnkbefpbehllaaDoor.ShaR1
open Go.RowKit Go.Proofs.YtdnkbefpbehllaaDoor.Sums Go.Proofs.YtdnkbefpbehllaaDoor.Mem Go.Proofs.YtdnkbefpbehllaaDoor.Blk Go.Proofs.YtdnkbefpbehllaaDoor.Bits3 Go.Proofs.YtdnkbefpbehllaaDoor.Ints Go.Proofs.YtdnkbefpbehllaaDoor.IntsO Go.Proofs.YtdnkbefpbehllaaDoor.ShaD

theorem rot_lt {x n : Nat} (hx : x < M) (hn : n ≤ 31) : rot x n < 8589934592 := by
  unfold rot
  have hp : 0 < 2 ^ n := Nat.two_pow_pos n
  have a : x / 2 ^ n ≤ x := Nat.div_le_self _ _
  have b : x % 2 ^ n * (M / 2 ^ n) ≤ 2 ^ n * (M / 2 ^ n) := Nat.mul_le_mul_right _ (Nat.le_of_lt (Nat.mod_lt _ hp))
  have c : 2 ^ n * (M / 2 ^ n) ≤ M := Nat.mul_div_le _ _
  unfold M at *
  omega

end Go.Proofs.YtdnkbefpbehllaaDoor.ShaR1

/- Contracts of the document: Constants, Constant, State, Ints; rows of any ints. -/
set_option linter.unusedVariables false
namespace Go.Proofs.YtdnkbefpbehllaaDoor.ShaC
open Go.RowKit Go.Proofs.YtdnkbefpbehllaaDoor.Sums Go.Proofs.YtdnkbefpbehllaaDoor.Mem Go.Proofs.YtdnkbefpbehllaaDoor.Blk Go.Proofs.YtdnkbefpbehllaaDoor.Bits3 Go.Proofs.YtdnkbefpbehllaaDoor.Ints Go.Proofs.YtdnkbefpbehllaaDoor.IntsO Go.Proofs.YtdnkbefpbehllaaDoor.ShaD Go.Proofs.YtdnkbefpbehllaaDoor.ShaR1

/-- The slice (A, n, c) holds these ints, in memory below block B. -/
def HoldsI (w : World) (B : Nat) (A : Option Addr) (n c : Nat) (l : List Int) : Prop :=
  l.length = n ∧ n ≤ 1048576 ∧ (∀ z ∈ l, -9223372036854775808 ≤ z ∧ z ≤ 9223372036854775807) ∧
  (0 < n → ∃ b o, A = some ⟨b, o, none⟩ ∧ b < B ∧ ∀ j, j < n → w.cell? ⟨b, o + j, none⟩ = some (.int .i64 (l.getD j 0)))
theorem HoldsI.keep {w w' : World} {B n c : Nat} {A : Option Addr} {l : List Int} (h : HoldsI w B A n c l)
    (k : ∀ b o, b < B → w'.cell? ⟨b, o, none⟩ = w.cell? ⟨b, o, none⟩) : HoldsI w' B A n c l :=
  ⟨h.1, h.2.1, h.2.2.1, fun hn => by
    obtain ⟨b, o, e, hb, hc⟩ := h.2.2.2 hn
    exact ⟨b, o, e, hb, fun j hj => (k _ _ hb).trans (hc j hj)⟩⟩
theorem HoldsI.more {w : World} {B B' n c : Nat} {A : Option Addr} {l : List Int} (h : HoldsI w B A n c l) (k : B ≤ B') : HoldsI w B' A n c l :=
  ⟨h.1, h.2.1, h.2.2.1, fun hn => by
    obtain ⟨b, o, e, hb, hc⟩ := h.2.2.2 hn
    exact ⟨b, o, e, by omega, hc⟩⟩
theorem HoldsI.below {w w' : World} {B n c : Nat} {A : Option Addr} {l : List Int} (h : HoldsI w B A n c l) (k : Below B w w') : HoldsI w' B A n c l :=
  h.keep fun b o hb => k.cell (p := ⟨b, o, none⟩) hb
theorem HoldsI.of_own {w : World} {base : Nat} {A : Option Addr} {c : Nat} {l : List Nat} (h : IOwn w base (.slice A l.length c) l) (hl : W32 l) (hm : l.length ≤ 1048576) : HoldsI w w.heap.size A l.length c (ints l) := by
  refine ⟨by simp [ints], hm, fun z hz => ?_, fun hn => ?_⟩
  · obtain ⟨x, hx, rfl⟩ := List.mem_map.1 hz
    have := hl x hx
    unfold M at this
    omega
  · obtain ⟨g, cap, e, hb, hg, _⟩ := h.form hn
    injection e with e1 _ _
    subst e1
    refine ⟨g, 0, rfl, hg, fun j hj => ?_⟩
    rw [Nat.zero_add, ints_getD]
    exact h.cell hj

/-- May these numbers be a state? -/
def okI (l : List Int) : Bool := l.all fun z => decide (0 ≤ z) && decide (z < 4294967296)
def stI (l : List Int) : Bool := okI l && decide (l.length = 8)

theorem lit_K : (#[.int .i64 1116352408, .int .i64 1899447441, .int .i64 3049323471, .int .i64 3921009573, .int .i64 961987163, .int .i64 1508970993, .int .i64 2453635748, .int .i64 2870763221, .int .i64 3624381080, .int .i64 310598401, .int .i64 607225278, .int .i64 1426881987, .int .i64 1925078388, .int .i64 2162078206, .int .i64 2614888103, .int .i64 3248222580, .int .i64 3835390401, .int .i64 4022224774, .int .i64 264347078, .int .i64 604807628, .int .i64 770255983, .int .i64 1249150122, .int .i64 1555081692, .int .i64 1996064986, .int .i64 2554220882, .int .i64 2821834349, .int .i64 2952996808, .int .i64 3210313671, .int .i64 3336571891, .int .i64 3584528711, .int .i64 113926993, .int .i64 338241895, .int .i64 666307205, .int .i64 773529912, .int .i64 1294757372, .int .i64 1396182291, .int .i64 1695183700, .int .i64 1986661051, .int .i64 2177026350, .int .i64 2456956037, .int .i64 2730485921, .int .i64 2820302411, .int .i64 3259730800, .int .i64 3345764771, .int .i64 3516065817, .int .i64 3600352804, .int .i64 4094571909, .int .i64 275423344, .int .i64 430227734, .int .i64 506948616, .int .i64 659060556, .int .i64 883997877, .int .i64 958139571, .int .i64 1322822218, .int .i64 1537002063, .int .i64 1747873779, .int .i64 1955562222, .int .i64 2024104815, .int .i64 2227730452, .int .i64 2361852424, .int .i64 2428436474, .int .i64 2756734187, .int .i64 3204031479, .int .i64 3329325298, .int .i64 1779033703, .int .i64 3144134277, .int .i64 1013904242, .int .i64 2773480762, .int .i64 1359893119, .int .i64 2600822924, .int .i64 528734635, .int .i64 1541459225] : Array Value) = icells K := by kernel_rfl
/-- A number by its place. -/
def kAt (i : Int) : Nat := if i < 0 ∨ 71 < i then 0 else K.getD i.toNat 0
end Go.Proofs.YtdnkbefpbehllaaDoor.ShaC

/- Numbers of 32 bits: their bits, rows of them, turned ones; the table of constants; contracts of the code: RotateLeft32, rotated, Constant. -/
set_option linter.unusedVariables false
namespace Go.Proofs.YtdnkbefpbehllaaDoor.Dig1
open Go.RowKit Go.PlainAid Go.Proofs.YtdnkbefpbehllaaDoor.Sums Go.Proofs.YtdnkbefpbehllaaDoor.Mem Go.Proofs.YtdnkbefpbehllaaDoor.Blk Go.Proofs.YtdnkbefpbehllaaDoor.Bits Go.Proofs.YtdnkbefpbehllaaDoor.Bits3 Go.Proofs.YtdnkbefpbehllaaDoor.Ints Go.Proofs.YtdnkbefpbehllaaDoor.ShaD Go.Proofs.YtdnkbefpbehllaaDoor.ShaR1 Go.Proofs.YtdnkbefpbehllaaDoor.ShaC

/-! ### Bits -/
theorem n32 {c : Nat} (h : c < M) : (BitVec.ofInt 32 (c : Int)).toNat = c := by unfold M at h; rw [BitVec.toNat_ofInt]; simp; omega
theorem u32_xor {a b : Nat} (h1 : a < M) (h2 : b < M) : bits .xor .u32 (a : Int) (b : Int) = ((a ^^^ b : Nat) : Int) := by
  show IntKind.u32.wrap ((BitVec.ofInt 32 (a : Int) ^^^ BitVec.ofInt 32 (b : Int)).toNat : Int) = _
  rw [BitVec.toNat_xor, n32 h1, n32 h2, IntKind.wrap_u32]
  have : a ^^^ b < 2 ^ 32 := Nat.xor_lt_two_pow (by unfold M at h1; omega) (by unfold M at h2; omega)
  omega
theorem u32_and {a b : Nat} (h1 : a < M) (h2 : b < M) : bits .and .u32 (a : Int) (b : Int) = ((a &&& b : Nat) : Int) := by
  show IntKind.u32.wrap ((BitVec.ofInt 32 (a : Int) &&& BitVec.ofInt 32 (b : Int)).toNat : Int) = _
  rw [BitVec.toNat_and, n32 h1, n32 h2, IntKind.wrap_u32]
  have : a &&& b < 2 ^ 32 := Nat.and_lt_two_pow _ (by unfold M at h2; omega)
  omega
theorem u32_or {a b : Nat} (h1 : a < M) (h2 : b < M) : bits .or .u32 (a : Int) (b : Int) = ((a ||| b : Nat) : Int) := by
  show IntKind.u32.wrap ((BitVec.ofInt 32 (a : Int) ||| BitVec.ofInt 32 (b : Int)).toNat : Int) = _
  rw [BitVec.toNat_or, n32 h1, n32 h2, IntKind.wrap_u32]
  have : a ||| b < 2 ^ 32 := Nat.or_lt_two_pow (by unfold M at h1; omega) (by unfold M at h2; omega)
  omega
theorem xor_M {a b : Nat} (h1 : a < M) (h2 : b < M) : a ^^^ b < M := Nat.xor_lt_two_pow (n := 32) h1 h2
theorem and_M {a b : Nat} (h2 : b < M) : a &&& b < M := Nat.and_lt_two_pow (n := 32) _ h2
theorem or_M {a b : Nat} (h1 : a < M) (h2 : b < M) : a ||| b < M := Nat.or_lt_two_pow (n := 32) h1 h2
/-- A turned number, by bits. -/
theorem rot_or {x n : Nat} (hx : x < M) (hn : n ≤ 32) : (x * 2 ^ (32 - n) % M) ||| (x / 2 ^ n) = rot x n := by
  have hM : M = 2 ^ n * 2 ^ (32 - n) := by rw [← Nat.pow_add, show n + (32 - n) = 32 by omega]; rfl
  have e : x * 2 ^ (32 - n) % M = (x % 2 ^ n) * 2 ^ (32 - n) := by rw [hM, Nat.mul_mod_mul_right]
  have q : M / 2 ^ n = 2 ^ (32 - n) := by rw [hM, Nat.mul_div_cancel_left _ (Nat.two_pow_pos n)]
  have l : x / 2 ^ n < 2 ^ (32 - n) := by rw [Nat.div_lt_iff_lt_mul (Nat.two_pow_pos n), Nat.mul_comm, ← hM]; exact hx
  unfold rot
  rw [e, q, Nat.add_comm, ← Nat.shiftLeft_eq, ← Nat.shiftLeft_add_eq_or_of_lt l]
theorem rot_M {x n : Nat} (hx : x < M) (hn : n ≤ 32) : rot x n < M := by
  rw [← rot_or hx hn]
  exact or_M (Nat.mod_lt _ (by decide)) (Nat.lt_of_le_of_lt (Nat.div_le_self _ _) hx)
theorem not_bit {x : Nat} (hx : x < M) (i : Nat) : (M - 1 - x).testBit i = (decide (i < 32) && !x.testBit i) := by
  rw [show M - 1 - x = 2 ^ 32 - (x + 1) by unfold M; omega]
  exact Nat.testBit_two_pow_sub_succ (by unfold M at hx; omega) i
/-- The choice: or in place of unlike. -/
theorem ch_or {x f g : Nat} (hx : x < M) : (x &&& f) ||| ((M - 1 - x) &&& g) = ch x f g := by
  unfold ch
  apply Nat.eq_of_testBit_eq
  intro i
  simp only [Nat.testBit_or, Nat.testBit_xor, Nat.testBit_and, not_bit hx]
  cases x.testBit i <;> cases f.testBit i <;> cases g.testBit i <;> simp
theorem maj_or (a b c : Nat) : (a &&& b) ||| (a &&& c) ||| (b &&& c) = maj a b c := by
  unfold maj
  apply Nat.eq_of_testBit_eq
  intro i
  simp only [Nat.testBit_or, Nat.testBit_xor, Nat.testBit_and]
  cases a.testBit i <;> cases b.testBit i <;> cases c.testBit i <;> rfl
theorem wrap32 (x : Nat) : IntKind.u32.wrap (x : Int) = ((x % M : Nat) : Int) := by rw [IntKind.wrap_u32]; unfold M; omega

/-! ### Rows of them -/
def ucells (l : List Nat) : Array Value := (l.map fun n : Nat => Value.int .u32 (n : Int)).toArray
theorem ucells_get (l : List Nat) (i : Nat) (h : i < l.length) : (ucells l)[i]? = some (.int .u32 ((l.getD i 0 : Nat) : Int)) := by
  unfold ucells
  rw [List.getElem?_toArray, List.getElem?_map, List.getD_eq_getElem?_getD, List.getElem?_eq_getElem h]
  rfl
theorem ucells_set (l : List Nat) (i z : Nat) : (ucells l).setIfInBounds i (.int .u32 (z : Int)) = ucells (l.set i z) := by
  unfold ucells
  rw [List.setIfInBounds_toArray, List.map_set]
theorem ucells_size (l : List Nat) : (ucells l).size = l.length := by simp [ucells]
theorem ucells_one (l : List Nat) : (ucells l).all (·.oneCell') = true := by
  rw [Array.all_eq_true_iff_forall_mem]
  intro x hx
  simp [ucells] at hx
  obtain ⟨z, _, rfl⟩ := hx
  rfl
theorem ucells_ne {l : List Nat} (h : 0 < l.length) : (ucells l = #[]) = False := by
  apply eq_false
  intro e
  have := congrArg Array.size e
  simp [ucells] at this
  subst this
  simp at h
/-- A block of numbers of any array's kind. -/
def URow (w : World) (g : Nat) (t : TypeId) (l : List Nat) : Prop := Blk w g t (ucells l)
section
variable {w w' : World} {g : Nat} {t : TypeId} {l : List Nat}
theorem URow.cell (h : URow w g t l) (i : Nat) (hi : i < l.length) : w.cell? ⟨g, i, none⟩ = some (.int .u32 ((l.getD i 0 : Nat) : Int)) := (Blk.cell h i).trans (ucells_get l i hi)
theorem URow.put (h : URow w g t l) (i z : Nat) : URow (w.setCell ⟨g, i, none⟩ (.int .u32 (z : Int))) g t (l.set i z) := by
  have := Blk.put h i (.int .u32 (z : Int))
  rw [ucells_set] at this
  exact this
theorem URow.lt (h : URow w g t l) : g < w.heap.size := Blk.lt h
theorem URow.below {B : Nat} (h : URow w g t l) (hb : Below B w w') (hg : g < B) : URow w' g t l := Blk.below h hb hg
theorem URow.up (h : URow w g t l) (hb : Below w.heap.size w w') : URow w' g t l := Blk.below h hb h.lt
theorem URow.alloc (h : URow w g t l) (o : Obj) : URow (w.alloc o) g t l := Blk.alloc h o
theorem URow.far (h : URow w g t l) {p : Addr} (hp : g ≠ p.block) (u : Value) : URow (w.setCell p u) g t l := Blk.far h hp u
theorem URow.free (h : URow w g t l) (i : Nat) : w.frozen? ⟨g, i, none⟩ = false := Blk.frozen h i
theorem URow.drewN (h : URow w g t l) (n : Nat) : URow (w.drewN n) g t l := h
end
theorem URow.new (w : World) (t : TypeId) (l : List Nat) : URow (w.alloc (.cells (ucells l) t)) w.heap.size t l := Blk.new w _ _
theorem below_setRow {B g : Nat} {a w : World} {cs : Array Value} (h : Below B a w) (hg : B ≤ g) : Below B a (w.setRow g cs) :=
  ⟨h.os, h.tape, h.output, by simpa [World.setRow] using h.size, fun k hk => by
    have e : (w.setRow g cs).heap[k]? = w.heap[k]? := by
      unfold World.setRow
      simp only [Array.getElem?_modify]
      rw [if_neg (by omega)]
    rw [e]
    exact h.block k hk⟩
/-! ### Filled place by place, over what lay there -/
def pil (f g : Nat → Nat) (n j : Nat) : List Nat := (List.range n).map fun i => if i < j then f i else g i
theorem pil_len (f g : Nat → Nat) (n j : Nat) : (pil f g n j).length = n := by simp [pil]
theorem pil_get (f g : Nat → Nat) {n j i : Nat} (h : i < n) : (pil f g n j).getD i 0 = if i < j then f i else g i := by
  rw [List.getD_eq_getElem?_getD, pil, List.getElem?_map, List.getElem?_range h]
  rfl
theorem pil_at (f g : Nat → Nat) {n j : Nat} (h : j < n) : (pil f g n j).getD j 0 = g j := by rw [pil_get f g h, if_neg (Nat.lt_irrefl _)]
theorem pil_zero (f : Nat → Nat) (l : List Nat) : pil f (fun i => l.getD i 0) l.length 0 = l := by
  apply List.ext_getElem
  · simp [pil]
  · intro i h1 h2
    simp only [pil, List.getElem_map, List.getElem_range]
    rw [if_neg (Nat.not_lt_zero _), List.getD_eq_getElem?_getD, List.getElem?_eq_getElem h2]
    rfl
theorem pil_full (f g : Nat → Nat) (n : Nat) : pil f g n n = (List.range n).map f := by
  apply List.ext_getElem
  · simp [pil]
  · intro i h1 h2
    simp [pil] at h1 ⊢
    intro h; omega
theorem pil_set (f g : Nat → Nat) (n j : Nat) : (pil f g n j).set j (f j) = pil f g n (j + 1) := by
  apply List.ext_getElem
  · simp [pil]
  · intro i h1 h2
    rw [List.getElem_set]
    simp only [pil, List.getElem_map, List.getElem_range]
    by_cases q : j = i
    · subst q
      rw [if_pos rfl, if_pos (by omega)]
    · rw [if_neg q]
      by_cases r : i < j
      · rw [if_pos r, if_pos (by omega)]
      · rw [if_neg r, if_neg (by omega)]

/-! ### The table -/
/-- The table lies there. -/
def Tab (w : World) : Prop := ∃ t fr, w.heap[(0 : Nat)]? = some (.cells (ucells K) t fr)
theorem Tab.lt {w : World} (h : Tab w) : (0 : Nat) < w.heap.size := by
  obtain ⟨t, fr, h⟩ := h
  rcases Nat.lt_or_ge (0 : Nat) w.heap.size with h' | h'
  · exact h'
  · rw [Array.getElem?_eq_none h'] at h; cases h
theorem Tab.below {w w' : World} {B : Nat} (h : Tab w) (k : Below B w w') (hB : (0 : Nat) < B) : Tab w' := by
  obtain ⟨t, fr, h⟩ := h
  refine ⟨t, fr, ?_⟩
  rw [k.block _ hB]
  exact h
theorem Tab.up {w w' : World} (h : Tab w) (k : Below w.heap.size w w') : Tab w' := h.below k h.lt
theorem Tab.cell {w : World} (h : Tab w) (i : Nat) (hi : i < 72) : w.cell? ⟨(0 : Nat), i, none⟩ = some (.int .u32 ((K.getD i 0 : Nat) : Int)) := by
  obtain ⟨t, fr, h⟩ := h
  rw [cell_of_row w _ i _ t fr h]
  exact ucells_get K i (by rw [K_len]; exact hi)

/-! ### The code -/
theorem low5 {n : Nat} (h1 : 1 ≤ n) (hn : n ≤ 31) : bits .and .u64 (IntKind.u64.wrap (-(n : Int))) 31 = ((32 - n : Nat) : Int) := by
  have e : IntKind.u64.wrap (-(n : Int)) = ((18446744073709551616 - n : Nat) : Int) := by rw [IntKind.wrap_u64]; omega
  rw [e]
  show IntKind.u64.wrap ((BitVec.ofInt 64 ((18446744073709551616 - n : Nat) : Int) &&& BitVec.ofInt 64 31).toNat : Int) = _
  have n64 : ∀ c : Nat, c < 18446744073709551616 → (BitVec.ofInt 64 (c : Int)).toNat = c := fun c hc => by rw [BitVec.toNat_ofInt]; simp; omega
  have n31 : (BitVec.ofInt 64 31).toNat = 2 ^ 5 - 1 := by decide
  rw [BitVec.toNat_and, n64 _ (by omega), n31, Nat.and_two_pow_sub_one_eq_mod, IntKind.wrap_u64]
  omega
set_option maxHeartbeats 1000000 in
theorem rotl_no (x n : Nat) (hx : x < M) (h1 : 1 ≤ n) (hn : n ≤ 31) (w : World) : Calls Tryd.prog 69 #[.int .u32 (x : Int), .int .i64 (-(n : Int))] w fun e w' => e = .returned (.int .u32 ((rot x n : Nat) : Int)) ∧ w = w' := by
  have R := rot_or hx (show n ≤ 32 by omega)
  have LY : x * 2 ^ (32 - n) % M < M := Nat.mod_lt _ (by decide)
  have LZ : x / 2 ^ n < M := Nat.lt_of_le_of_lt (Nat.div_le_self _ _) hx
  have a1 := low5 h1 hn
  have e1 : IntKind.u32.wrap ((x : Int) * 2 ^ (32 - n)) = ((x * 2 ^ (32 - n) % M : Nat) : Int) := by rw [← wrap32]; simp
  have e2 : (x : Int) / 2 ^ n = ((x / 2 ^ n : Nat) : Int) := by simp
  obtain ⟨s, hs⟩ : ∃ s, s = 32 - n := ⟨_, rfl⟩
  rw [← hs] at a1 e1 R LY
  have s1 : (s : Int) ≤ 32 := by omega
  have s0 : (0 : Int) ≤ (s : Int) := by omega
  have m1 : (n : Int) ≤ 32 := by omega
  have m0 : (0 : Int) ≤ (n : Int) := by omega
  have a2 : IntKind.u64.wrap (32 - (s : Int)) = (n : Int) := by rw [IntKind.wrap_u64]; omega
  obtain ⟨y, hy⟩ : ∃ y, y = x * 2 ^ s % M := ⟨_, rfl⟩
  obtain ⟨z, hz⟩ : ∃ z, z = x / 2 ^ n := ⟨_, rfl⟩
  obtain ⟨r, hr⟩ : ∃ r, r = rot x n := ⟨_, rfl⟩
  rw [← hy] at e1 R LY
  rw [← hz] at e2 R LZ
  rw [← hr] at R ⊢
  have e3 : bits .or .u32 (y : Int) (z : Int) = (r : Int) := by rw [u32_or LY LZ, R]
  clear hs hy hz hr R LY LZ hx h1 hn
  go_enter Tryd.func69, Tryd.ntmps69
  go_wp2_with fail
  go_ret
  exact ⟨rfl, rfl⟩
theorem rotated_no (x n : Nat) (hx : x < M) (h1 : 1 ≤ n) (hn : n ≤ 31) (w : World) : Calls Tryd.prog 67 #[.int .u32 (x : Int), .int .i64 (n : Int)] w fun e w' => e = .returned (.int .u32 ((rot x n : Nat) : Int)) ∧ w = w' := by
  have C := Lib.hid (rotl_no x n hx h1 hn w)
  have f : IntKind.i64.wrap (-(n : Int)) = -(n : Int) := IntWalk.i64_in _ (by omega)
  generalize rot x n = r at *
  go_enter Tryd.func67, Tryd.ntmps67
  go_wp2_with fail
  refine C.out.mono ?_
  rintro e w' ⟨rfl, rfl⟩
  go_wp2_with fail
  go_ret
  exact ⟨rfl, rfl⟩
end Go.Proofs.YtdnkbefpbehllaaDoor.Dig1

