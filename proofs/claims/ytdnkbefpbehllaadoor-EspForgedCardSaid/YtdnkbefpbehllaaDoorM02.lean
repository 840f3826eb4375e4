/- Bits of numbers that are not below zero, as arithmetic. No program is named. -/
import Derived.Test.YtdnkbefpbehllaaDoorM01
import Derived.WalkKit
import Derived.IntWalk
import Derived.Laws.BitsAllLaws
import Derived.Laws.BitsLemmas
import Derived.Laws.MakeOwn
import Derived.OwnWalk
namespace Go.Proofs.YtdnkbefpbehllaaDoor.Bits
open Go.RowKit

theorem nat64 {a : Int} (h1 : 0 ≤ a) (h2 : a < 9223372036854775808) : (BitVec.ofInt 64 a).toNat = a.toNat := by
  rw [BitVec.toNat_ofInt]; simp; omega
theorem i64_or {a b : Int} (h1 : 0 ≤ a) (h2 : a < 9223372036854775808) (h3 : 0 ≤ b) (h4 : b < 9223372036854775808) : bits .or .i64 a b = ((a.toNat ||| b.toNat : Nat) : Int) := by
  show IntKind.i64.wrap ((BitVec.ofInt 64 a ||| BitVec.ofInt 64 b).toNat : Int) = _
  rw [BitVec.toNat_or, nat64 h1 h2, nat64 h3 h4, IntKind.wrap_i64]
  have : a.toNat ||| b.toNat < 2 ^ 63 := Nat.or_lt_two_pow (by omega) (by omega)
  omega
theorem i64_and {a b : Int} (h1 : 0 ≤ a) (h2 : a < 9223372036854775808) (h3 : 0 ≤ b) (h4 : b < 9223372036854775808) : bits .and .i64 a b = ((a.toNat &&& b.toNat : Nat) : Int) := by
  show IntKind.i64.wrap ((BitVec.ofInt 64 a &&& BitVec.ofInt 64 b).toNat : Int) = _
  rw [BitVec.toNat_and, nat64 h1 h2, nat64 h3 h4, IntKind.wrap_i64]
  have : a.toNat &&& b.toNat < 2 ^ 63 := Nat.and_lt_two_pow _ (by omega)
  omega

theorem or_low (k : Nat) {a b : Int} (h1 : 0 ≤ a) (h2 : a * (2 ^ k : Nat) < 9223372036854775808) (h3 : 0 ≤ b) (h4 : b < (2 ^ k : Nat)) (hk : k < 63) : bits .or .i64 (a * (2 ^ k : Nat)) b = a * (2 ^ k : Nat) + b := by
  have hp : (2 ^ k : Nat) ≤ 2 ^ 62 := Nat.pow_le_pow_right (by decide) (by omega)
  have h0 : 0 ≤ a * (2 ^ k : Nat) := Int.mul_nonneg h1 (by omega)
  rw [i64_or h0 h2 h3 (by omega)]
  obtain ⟨m, rfl⟩ : ∃ m : Nat, a = m := ⟨a.toNat, by omega⟩
  obtain ⟨n, rfl⟩ : ∃ n : Nat, b = n := ⟨b.toNat, by omega⟩
  have e := Nat.shiftLeft_add_eq_or_of_lt (i := k) (b := n) (by omega) m
  rw [Nat.shiftLeft_eq] at e
  have e1 : ((m : Int) * (2 ^ k : Nat)).toNat = m * 2 ^ k := by rw [← Int.natCast_mul, Int.toNat_natCast]
  rw [e1, Int.toNat_natCast, ← e]
  simp
theorem or_comm (a b : Int) : bits .or .i64 a b = bits .or .i64 b a := by
  show IntKind.i64.wrap ((BitVec.ofInt 64 a ||| BitVec.ofInt 64 b).toNat : Int) = IntKind.i64.wrap ((BitVec.ofInt 64 b ||| BitVec.ofInt 64 a).toNat : Int)
  rw [BitVec.or_comm]
theorem and_pow (m k : Nat) : m &&& 2^k = (m / 2^k % 2) * 2^k := by
  apply Nat.eq_of_testBit_eq
  intro i
  rw [Nat.testBit_and, Nat.testBit_two_pow, Nat.testBit_mul_two_pow]
  rcases Nat.lt_trichotomy i k with h | h | h
  · simp [show ¬ k ≤ i by omega, show ¬ k = i by omega]
  · subst h
    simp [Nat.testBit_eq_decide_div_mod_eq]
  · have e : i - k ≠ 0 := by omega
    simp [show ¬ k = i by omega, show k ≤ i by omega, Nat.testBit_eq_decide_div_mod_eq]
    have h2 : m / 2 ^ k % 2 < 2 := Nat.mod_lt _ (by decide)
    have : 2 ≤ 2 ^ (i - k) := by
      calc 2 = 2 ^ 1 := rfl
        _ ≤ 2 ^ (i - k) := Nat.pow_le_pow_right (by decide) (by omega)
    rw [Nat.div_eq_of_lt (by omega)]
theorem and_bit (k : Nat) {a : Int} (h1 : 0 ≤ a) (h2 : a < 65536) (hk : k < 16) : bits .and .i64 a (2 ^ k : Nat) = (a / (2 ^ k : Nat) % 2) * (2 ^ k : Nat) := by
  have hp : (2 ^ k : Nat) ≤ 2 ^ 15 := Nat.pow_le_pow_right (by decide) (by omega)
  have h0 : (0 : Int) ≤ ((2 ^ k : Nat) : Int) := Int.natCast_nonneg _
  rw [i64_and h1 (by omega) h0 (by omega), Int.toNat_natCast]
  obtain ⟨m, rfl⟩ : ∃ m : Nat, a = m := ⟨a.toNat, by omega⟩
  rw [Int.toNat_natCast, and_pow]
  simp
theorem and_mask (k : Nat) {a : Int} (h1 : 0 ≤ a) (h2 : a < 65536) (hk : k < 32) : bits .and .i64 a ((2 ^ k - 1 : Nat) : Int) = a % (2 ^ k : Nat) := by
  have hp : (2 ^ k : Nat) ≤ 2 ^ 32 := Nat.pow_le_pow_right (by decide) (by omega)
  rw [i64_and h1 (by omega) (by omega) (by omega), Int.toNat_natCast]
  obtain ⟨m, rfl⟩ : ∃ m : Nat, a = m := ⟨a.toNat, by omega⟩
  rw [Int.toNat_natCast, Nat.and_two_pow_sub_one_eq_mod]
  simp

theorem or_zero {a : Int} (h1 : 0 ≤ a) (h2 : a < 9223372036854775808) : bits .or .i64 0 a = a := by
  rw [i64_or (by omega) (by omega) h1 h2]; simp; omega
theorem or_byte {y z : Int} (y0 : 0 ≤ y) (y1 : y ≤ 255) (z0 : 0 ≤ z) (z1 : z ≤ 255) : bits .or .i64 (y * 256) z = 256 * y + z := by
  have := or_low 8 (a := y) (b := z) y0 (by simp; omega) z0 (by simp; omega) (by decide)
  simp at this
  rw [this]; omega
theorem or_first {s : Int} (h0 : 0 ≤ s) (h1 : s < 64) : bits .or .i64 64 s = 64 + s := by
  have := or_low 6 (a := 1) (b := s) (by decide) (by decide) h0 (by simpa using h1) (by decide)
  simpa using this
theorem or_df {x : Int} (h0 : 0 ≤ x) (h1 : x < 16384) : bits .or .i64 x 16384 = x + 16384 := by
  have := or_low 14 (a := 1) (b := x) (by decide) (by decide) h0 (by simpa using h1) (by decide)
  rw [or_comm]
  simp at this
  rw [this]; omega
theorem or_mf {x : Int} (h0 : 0 ≤ x) (h1 : x < 8192) : bits .or .i64 x 8192 = x + 8192 := by
  have := or_low 13 (a := 1) (b := x) (by decide) (by decide) h0 (by simpa using h1) (by decide)
  rw [or_comm]
  simp at this
  rw [this]; omega
theorem or_mf2 {x : Int} (h0 : 0 ≤ x) (h1 : x < 8192) : bits .or .i64 (x + 16384) 8192 = x + 16384 + 8192 := by
  have e1 := i64_or (a := x + 16384) (b := 8192) (by omega) (by omega) (by decide) (by decide)
  rw [e1]
  obtain ⟨m, rfl⟩ : ∃ m : Nat, x = m := ⟨x.toNat, by omega⟩
  have a1 := Nat.shiftLeft_add_eq_or_of_lt (i := 14) (b := m) (by omega) 1
  have a2 := Nat.shiftLeft_add_eq_or_of_lt (i := 13) (b := m) (by omega) 1
  have a3 := Nat.shiftLeft_add_eq_or_of_lt (i := 14) (b := 8192 + m) (by omega) 1
  have s1 : (1 <<< 14 : Nat) = 16384 := by decide
  have s2 : (1 <<< 13 : Nat) = 8192 := by decide
  rw [s1] at a1 a3
  rw [s2] at a2
  have t1 : ((m : Int) + 16384).toNat = 16384 + m := by omega
  rw [t1, a1, show (8192 : Int).toNat = 8192 from rfl, Nat.or_assoc, Nat.or_comm m 8192, ← a2, ← a3]
  omega
theorem and_15 {a : Int} (h0 : 0 ≤ a) (h1 : a < 65536) : bits .and .i64 a 15 = a % 16 := by
  have := and_mask 4 h0 h1 (by decide); simpa using this
theorem and_8191 {a : Int} (h0 : 0 ≤ a) (h1 : a < 65536) : bits .and .i64 a 8191 = a % 8192 := by
  have := and_mask 13 h0 h1 (by decide); simpa using this
theorem and_32768 {a : Int} (h0 : 0 ≤ a) (h1 : a < 65536) : bits .and .i64 a 32768 = (a / 32768 % 2) * 32768 := by
  have := and_bit 15 h0 h1 (by decide); simpa using this
theorem and_16384 {a : Int} (h0 : 0 ≤ a) (h1 : a < 65536) : bits .and .i64 a 16384 = (a / 16384 % 2) * 16384 := by
  have := and_bit 14 h0 h1 (by decide); simpa using this
theorem and_8192 {a : Int} (h0 : 0 ≤ a) (h1 : a < 65536) : bits .and .i64 a 8192 = (a / 8192 % 2) * 8192 := by
  have := and_bit 13 h0 h1 (by decide); simpa using this

end Go.Proofs.YtdnkbefpbehllaaDoor.Bits

/- Sums of bits (XOR) of numbers that are not below zero. No program is named. -/
namespace Go.Proofs.YtdnkbefpbehllaaDoor.Bits3
open Go.RowKit Go.Proofs.YtdnkbefpbehllaaDoor.Bits

theorem i64_xor {a b : Nat} (h1 : a < 4611686018427387904) (h2 : b < 4611686018427387904) : bits .xor .i64 (a : Int) (b : Int) = ((a ^^^ b : Nat) : Int) := by
  show IntKind.i64.wrap ((BitVec.ofInt 64 (a : Int) ^^^ BitVec.ofInt 64 (b : Int)).toNat : Int) = _
  rw [BitVec.toNat_xor, nat64 (by omega) (by omega), nat64 (by omega) (by omega), IntKind.wrap_i64]
  have : a ^^^ b < 2 ^ 62 := Nat.xor_lt_two_pow (by omega) (by omega)
  simp only [Int.toNat_natCast]
  omega
theorem u8_xor {a b : Nat} (h1 : a < 256) (h2 : b < 256) : bits .xor .u8 (a : Int) (b : Int) = ((a ^^^ b : Nat) : Int) := by
  have n8 : ∀ c : Nat, c < 256 → (BitVec.ofInt 8 (c : Int)).toNat = c := fun c hc => by rw [BitVec.toNat_ofInt]; simp; omega
  show IntKind.u8.wrap ((BitVec.ofInt 8 (a : Int) ^^^ BitVec.ofInt 8 (b : Int)).toNat : Int) = _
  rw [BitVec.toNat_xor, n8 a h1, n8 b h2, IntKind.wrap_u8]
  have : a ^^^ b < 2 ^ 8 := Nat.xor_lt_two_pow (by omega) (by omega)
  omega
/-- Rows of bytes as numbers, and back. -/
def ints (l : List Nat) : List Int := List.map (fun n : Nat => (n : Int)) l
def nats (l : List Int) : List Nat := l.map Int.toNat
theorem ints_nats {l : List Int} (h : ∀ z ∈ l, 0 ≤ z ∧ z ≤ 255) : ints (nats l) = l := by
  unfold ints nats
  rw [List.map_map]
  refine (List.map_congr_left fun z hz => ?_).trans (List.map_id l)
  have := h z hz
  simp only [Function.comp, id]
  omega
theorem nats_ints (l : List Nat) : nats (ints l) = l := by
  unfold ints nats
  rw [List.map_map]
  exact (List.map_congr_left fun z _ => Int.toNat_natCast z).trans (List.map_id l)
theorem nats_lt {l : List Int} (h : ∀ z ∈ l, 0 ≤ z ∧ z ≤ 255) : ∀ x ∈ nats l, x < 256 := by
  intro x hx
  obtain ⟨z, hz, rfl⟩ := List.mem_map.1 hx
  have := h z hz
  omega
theorem ints_in {l : List Nat} (h : ∀ x ∈ l, x < 256) : ∀ z ∈ ints l, 0 ≤ z ∧ z ≤ 255 := by
  intro z hz
  obtain ⟨x, hx, rfl⟩ := List.mem_map.1 hz
  have := h x hx
  omega
theorem ints_getD (l : List Nat) (i : Nat) : (ints l).getD i 0 = ((l.getD i 0 : Nat) : Int) := by
  unfold ints
  rw [List.getD_eq_getElem?_getD, List.getD_eq_getElem?_getD, List.getElem?_map]
  cases l[i]? <;> rfl
end Go.Proofs.YtdnkbefpbehllaaDoor.Bits3

/- Rows of ints and of bytes in blocks that are known whole, as lists of Nat; made of zeros, stored into, filled place by place. No function is named. -/
set_option linter.unusedVariables false
namespace Go.Proofs.YtdnkbefpbehllaaDoor.Ints
open Go.RowKit Go.Proofs.YtdnkbefpbehllaaDoor.Sums Go.Proofs.YtdnkbefpbehllaaDoor.Mem Go.Proofs.YtdnkbefpbehllaaDoor.Blk Go.Proofs.YtdnkbefpbehllaaDoor.Bits3

def icells (l : List Nat) : Array Value := (l.map fun n : Nat => Value.int .i64 (n : Int)).toArray
def bcells (l : List Nat) : Array Value := (l.map fun n : Nat => Value.int .u8 (n : Int)).toArray
/-- A block of ints, of bytes. -/
def IRow (w : World) (g : Nat) (l : List Nat) : Prop := Blk w g 3 (icells l)
def BRow (w : World) (g : Nat) (l : List Nat) : Prop := Blk w g 5 (bcells l)
theorem icells_get (l : List Nat) (i : Nat) (h : i < l.length) : (icells l)[i]? = some (.int .i64 ((l.getD i 0 : Nat) : Int)) := by
  unfold icells
  rw [List.getElem?_toArray, List.getElem?_map, List.getD_eq_getElem?_getD, List.getElem?_eq_getElem h]
  rfl
theorem bcells_get (l : List Nat) (i : Nat) (h : i < l.length) : (bcells l)[i]? = some (.int .u8 ((l.getD i 0 : Nat) : Int)) := by
  unfold bcells
  rw [List.getElem?_toArray, List.getElem?_map, List.getD_eq_getElem?_getD, List.getElem?_eq_getElem h]
  rfl
theorem icells_set (l : List Nat) (i z : Nat) : (icells l).setIfInBounds i (.int .i64 (z : Int)) = icells (l.set i z) := by
  unfold icells
  rw [List.setIfInBounds_toArray, List.map_set]
theorem bcells_set (l : List Nat) (i z : Nat) : (bcells l).setIfInBounds i (.int .u8 (z : Int)) = bcells (l.set i z) := by
  unfold bcells
  rw [List.setIfInBounds_toArray, List.map_set]
section
variable {w w' : World} {g : Nat} {l : List Nat}
theorem IRow.cell (h : IRow w g l) (i : Nat) (hi : i < l.length) : w.cell? ⟨g, i, none⟩ = some (.int .i64 ((l.getD i 0 : Nat) : Int)) := (Blk.cell h i).trans (icells_get l i hi)
theorem BRow.cell (h : BRow w g l) (i : Nat) (hi : i < l.length) : w.cell? ⟨g, i, none⟩ = some (.int .u8 ((l.getD i 0 : Nat) : Int)) := (Blk.cell h i).trans (bcells_get l i hi)
theorem IRow.put (h : IRow w g l) (i z : Nat) : IRow (w.setCell ⟨g, i, none⟩ (.int .i64 (z : Int))) g (l.set i z) := by
  have := Blk.put h i (.int .i64 (z : Int))
  rw [icells_set] at this
  exact this
theorem BRow.put (h : BRow w g l) (i z : Nat) : BRow (w.setCell ⟨g, i, none⟩ (.int .u8 (z : Int))) g (l.set i z) := by
  have := Blk.put h i (.int .u8 (z : Int))
  rw [bcells_set] at this
  exact this
theorem IRow.lt (h : IRow w g l) : g < w.heap.size := Blk.lt h
theorem BRow.lt (h : BRow w g l) : g < w.heap.size := Blk.lt h
theorem IRow.below {B : Nat} (h : IRow w g l) (hb : Below B w w') (hg : g < B) : IRow w' g l := Blk.below h hb hg
theorem BRow.below {B : Nat} (h : BRow w g l) (hb : Below B w w') (hg : g < B) : BRow w' g l := Blk.below h hb hg
theorem IRow.up (h : IRow w g l) (hb : Below w.heap.size w w') : IRow w' g l := Blk.below h hb h.lt
theorem BRow.up (h : BRow w g l) (hb : Below w.heap.size w w') : BRow w' g l := Blk.below h hb h.lt
theorem IRow.alloc (h : IRow w g l) (o : Obj) : IRow (w.alloc o) g l := Blk.alloc h o
theorem BRow.alloc (h : BRow w g l) (o : Obj) : BRow (w.alloc o) g l := Blk.alloc h o
theorem IRow.far (h : IRow w g l) {p : Addr} (hp : g ≠ p.block) (u : Value) : IRow (w.setCell p u) g l := Blk.far h hp u
theorem BRow.far (h : BRow w g l) {p : Addr} (hp : g ≠ p.block) (u : Value) : BRow (w.setCell p u) g l := Blk.far h hp u
theorem IRow.free (h : IRow w g l) (i : Nat) : w.frozen? ⟨g, i, none⟩ = false := Blk.frozen h i
theorem BRow.free (h : BRow w g l) (i : Nat) : w.frozen? ⟨g, i, none⟩ = false := Blk.frozen h i
/-- A block of bytes is a row that the call owns. -/
theorem BRow.owns (h : BRow w g l) (hl : ∀ x ∈ l, x < 256) (hm : l.length ≤ 1048576) {base : Nat} (hg : base ≤ g) : Owns w base (.slice (some ⟨g, 0, none⟩) l.length l.length) l.length (ints l) := by
  refine ⟨by simp [ints], fun z hz => ints_in hl z hz, .inr ⟨g, l.length, bcells l, (0, 0), rfl, hg, h, .inl rfl, Nat.le_refl _, by simp only [maxLen]; omega, by simp [bcells], ?_⟩⟩
  rw [List.take_of_length_le (by simp [bcells])]
  simp only [bcells, ints, List.map_map]
  rfl
end

theorem int_info : (Tryd.prog.info? 3).map (fun i => (i.zero, i.size, i.bytes)) = some (some (.int .i64 0), 1, 8) := by kernel_rfl
theorem made_i (n : Nat) : madeCells #[.int .i64 0] n = icells (List.replicate n 0) := by
  apply Array.toList_inj.1
  simp only [madeCells, icells, List.map_replicate]
  apply List.ext_getElem
  · simp
  · intro i h1 h2
    simp [Nat.mod_one]
theorem made_b (n : Nat) : madeCells #[.int .u8 0] n = bcells (List.replicate n 0) := by
  apply Array.toList_inj.1
  simp only [madeCells, bcells, List.map_replicate]
  apply List.ext_getElem
  · simp
  · intro i h1 h2
    simp [Nat.mod_one]
theorem make_b (n : Nat) (hn : n ≤ 1048576) (w : World) :
    (Instr.makeSlice 25 (.int .i64 (n : Int)) (.int .i64 (n : Int))).run Tryd.prog w = .ok (.slice (some ⟨w.heap.size, 0, none⟩) n n) (w.alloc (.cells (bcells (List.replicate n 0)) 5)) := by
  obtain ⟨i, hi, hz, hsz, hby⟩ := info_parts byte_info
  have hr := run_make (P := Tryd.prog) w 25 5 i (.int .u8 0) Tryd.underlying25 hi hz .i64 .i64 (n : Int) (n : Int) (by omega) (by omega) (by rw [hby]; omega) (by omega)
  rw [Int.toNat_natCast, hsz, Nat.mul_one] at hr
  rw [← made_b]
  exact hr
theorem IRow.new (w : World) (l : List Nat) : IRow (w.alloc (.cells (icells l) 3)) w.heap.size l := Blk.new w _ _
theorem BRow.new (w : World) (l : List Nat) : BRow (w.alloc (.cells (bcells l) 5)) w.heap.size l := Blk.new w _ _

theorem cell_getD {w : World} {B b p n c : Nat} {l : List Int} (h : Holds w B (some ⟨b, p, none⟩) n c l) (i : Nat) (hi : i < n) : w.cell? ⟨b, p + i, none⟩ = some (.int .u8 (l.getD i 0)) := by
  obtain ⟨b', o', e, _, hc⟩ := h.2.2.2.2 (by omega)
  injection e with e
  injection e with e1 e2
  subst e1 e2
  have hz : l[i]? = some (l[i]'(by rw [h.1]; exact hi)) := List.getElem?_eq_getElem _
  rw [List.getD_eq_getElem?_getD, hz]
  exact hc i _ hz
theorem nats_len (l : List Int) : (nats l).length = l.length := by simp [nats]
theorem nats_getD {l : List Int} (h : Bytes l) (i : Nat) : l.getD i 0 = (((nats l).getD i 0 : Nat) : Int) := by
  have e := ints_nats (l := l) (fun z hz => h z hz)
  have := ints_getD (nats l) i
  rw [e] at this
  exact this

/-! ### Filled place by place -/
def fil (f : Nat → Nat) (n j : Nat) : List Nat := (List.range n).map fun i => if i < j then f i else 0
theorem fil_len (f : Nat → Nat) (n j : Nat) : (fil f n j).length = n := by simp [fil]
theorem fil_zero (f : Nat → Nat) (n : Nat) : fil f n 0 = List.replicate n 0 := by
  apply List.ext_getElem
  · simp [fil]
  · intro i h1 h2
    simp [fil]
theorem fil_full (f : Nat → Nat) (n : Nat) : fil f n n = (List.range n).map f := by
  apply List.ext_getElem
  · simp [fil]
  · intro i h1 h2
    simp [fil] at h1 ⊢
    intro h; omega
theorem fil_set (f : Nat → Nat) (n j : Nat) : (fil f n j).set j (f j) = fil f n (j + 1) := by
  apply List.ext_getElem
  · simp [fil]
  · intro i h1 h2
    rw [List.getElem_set]
    simp only [fil, List.getElem_map, List.getElem_range]
    by_cases q : j = i
    · subst q
      rw [if_pos rfl, if_pos (by omega)]
    · rw [if_neg q]
      by_cases r : i < j
      · rw [if_pos r, if_pos (by omega)]
      · rw [if_neg r, if_neg (by omega)]
end Go.Proofs.YtdnkbefpbehllaaDoor.Ints

