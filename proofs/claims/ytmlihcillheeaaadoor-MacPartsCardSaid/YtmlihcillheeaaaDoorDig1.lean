/- Numbers of 32 bits: their bits, rows of them, turned ones; the table of constants; contracts of the code: RotateLeft32, rotated, Constant. -/
import Derived.Test.YtmlihcillheeaaaDoorInts
import Derived.Test.YtmlihcillheeaaaDoorOpsB
import Derived.Test.YtmlihcillheeaaaDoorShaC
import Derived.LoopTactic
import Derived.PlainAid
set_option linter.unusedVariables false
namespace Go.Proofs.YtmlihcillheeaaaDoor.Dig1
open Go.RowKit Go.PlainAid Go.Proofs.YtmlihcillheeaaaDoor.Sums Go.Proofs.YtmlihcillheeaaaDoor.Mem Go.Proofs.YtmlihcillheeaaaDoor.Blk Go.Proofs.YtmlihcillheeaaaDoor.Bits Go.Proofs.YtmlihcillheeaaaDoor.Bits3 Go.Proofs.YtmlihcillheeaaaDoor.Ints Go.Proofs.YtmlihcillheeaaaDoor.ShaD Go.Proofs.YtmlihcillheeaaaDoor.ShaR1 Go.Proofs.YtmlihcillheeaaaDoor.ShaC

/-! ### Bits -/
theorem n32 {c : Nat} (h : c < M) : (BitVec.ofInt 32 (c : Int)).toNat = c := by unfold M at h; rw [BitVec.toNat_ofInt]; simp; omega
theorem u32_xor {a b : Nat} (h1 : a < M) (h2 : b < M) : bits .xor .u32 (a : Int) (b : Int) = ((a ^^^ b : Nat) : Int) := by
  show IntKind.u32.wrap ((BitVec.ofInt 32 (a : Int) ^^^ BitVec.ofInt 32 (b : Int)).toNat : Int) = _
  rw [BitVec.toNat_xor, n32 h1, n32 h2, IntKind.wrap_u32]
  have : a ^^^ b < 2 ^ 32 := Nat.xor_lt_two_pow (by unfold M at h1; omega) (by unfold M at h2; omega)
  omega
theorem u32_and {a b : Nat} (h1 : a < M) (h2 : b < M) : bits .and .u32 (a : Int) (b : Int) = ((a &&& b : Nat) : Int) := by
  show IntKind.u32.wrap ((BitVec.ofInt 32 (a : Int) &&& BitVec.ofInt 32 (b : Int)).toNat : Int) = _
  rw [BitVec.toNat_and, n32 h1, n32 h2, IntKind.wrap_u32]
  have : a &&& b < 2 ^ 32 := Nat.and_lt_two_pow _ (by unfold M at h2; omega)
  omega
theorem u32_or {a b : Nat} (h1 : a < M) (h2 : b < M) : bits .or .u32 (a : Int) (b : Int) = ((a ||| b : Nat) : Int) := by
  show IntKind.u32.wrap ((BitVec.ofInt 32 (a : Int) ||| BitVec.ofInt 32 (b : Int)).toNat : Int) = _
  rw [BitVec.toNat_or, n32 h1, n32 h2, IntKind.wrap_u32]
  have : a ||| b < 2 ^ 32 := Nat.or_lt_two_pow (by unfold M at h1; omega) (by unfold M at h2; omega)
  omega
theorem xor_M {a b : Nat} (h1 : a < M) (h2 : b < M) : a ^^^ b < M := Nat.xor_lt_two_pow (n := 32) h1 h2
theorem and_M {a b : Nat} (h2 : b < M) : a &&& b < M := Nat.and_lt_two_pow (n := 32) _ h2
theorem or_M {a b : Nat} (h1 : a < M) (h2 : b < M) : a ||| b < M := Nat.or_lt_two_pow (n := 32) h1 h2
/-- A turned number, by bits. -/
theorem rot_or {x n : Nat} (hx : x < M) (hn : n ≤ 32) : (x * 2 ^ (32 - n) % M) ||| (x / 2 ^ n) = rot x n := by
  have hM : M = 2 ^ n * 2 ^ (32 - n) := by rw [← Nat.pow_add, show n + (32 - n) = 32 by omega]; rfl
  have e : x * 2 ^ (32 - n) % M = (x % 2 ^ n) * 2 ^ (32 - n) := by rw [hM, Nat.mul_mod_mul_right]
  have q : M / 2 ^ n = 2 ^ (32 - n) := by rw [hM, Nat.mul_div_cancel_left _ (Nat.two_pow_pos n)]
  have l : x / 2 ^ n < 2 ^ (32 - n) := by rw [Nat.div_lt_iff_lt_mul (Nat.two_pow_pos n), Nat.mul_comm, ← hM]; exact hx
  unfold rot
  rw [e, q, Nat.add_comm, ← Nat.shiftLeft_eq, ← Nat.shiftLeft_add_eq_or_of_lt l]
theorem rot_M {x n : Nat} (hx : x < M) (hn : n ≤ 32) : rot x n < M := by
  rw [← rot_or hx hn]
  exact or_M (Nat.mod_lt _ (by decide)) (Nat.lt_of_le_of_lt (Nat.div_le_self _ _) hx)
theorem not_bit {x : Nat} (hx : x < M) (i : Nat) : (M - 1 - x).testBit i = (decide (i < 32) && !x.testBit i) := by
  rw [show M - 1 - x = 2 ^ 32 - (x + 1) by unfold M; omega]
  exact Nat.testBit_two_pow_sub_succ (by unfold M at hx; omega) i
/-- The choice: or in place of unlike. -/
theorem ch_or {x f g : Nat} (hx : x < M) : (x &&& f) ||| ((M - 1 - x) &&& g) = ch x f g := by
  unfold ch
  apply Nat.eq_of_testBit_eq
  intro i
  simp only [Nat.testBit_or, Nat.testBit_xor, Nat.testBit_and, not_bit hx]
  cases x.testBit i <;> cases f.testBit i <;> cases g.testBit i <;> simp
theorem maj_or (a b c : Nat) : (a &&& b) ||| (a &&& c) ||| (b &&& c) = maj a b c := by
  unfold maj
  apply Nat.eq_of_testBit_eq
  intro i
  simp only [Nat.testBit_or, Nat.testBit_xor, Nat.testBit_and]
  cases a.testBit i <;> cases b.testBit i <;> cases c.testBit i <;> rfl
theorem wrap32 (x : Nat) : IntKind.u32.wrap (x : Int) = ((x % M : Nat) : Int) := by rw [IntKind.wrap_u32]; unfold M; omega

/-! ### Rows of them -/
def ucells (l : List Nat) : Array Value := (l.map fun n : Nat => Value.int .u32 (n : Int)).toArray
theorem ucells_get (l : List Nat) (i : Nat) (h : i < l.length) : (ucells l)[i]? = some (.int .u32 ((l.getD i 0 : Nat) : Int)) := by
  unfold ucells
  rw [List.getElem?_toArray, List.getElem?_map, List.getD_eq_getElem?_getD, List.getElem?_eq_getElem h]
  rfl
theorem ucells_set (l : List Nat) (i z : Nat) : (ucells l).setIfInBounds i (.int .u32 (z : Int)) = ucells (l.set i z) := by
  unfold ucells
  rw [List.setIfInBounds_toArray, List.map_set]
theorem ucells_size (l : List Nat) : (ucells l).size = l.length := by simp [ucells]
theorem ucells_one (l : List Nat) : (ucells l).all (·.oneCell') = true := by
  rw [Array.all_eq_true_iff_forall_mem]
  intro x hx
  simp [ucells] at hx
  obtain ⟨z, _, rfl⟩ := hx
  rfl
theorem ucells_ne {l : List Nat} (h : 0 < l.length) : (ucells l = #[]) = False := by
  apply eq_false
  intro e
  have := congrArg Array.size e
  simp [ucells] at this
  subst this
  simp at h
/-- A block of numbers of any array's kind. -/
def URow (w : World) (g : Nat) (t : TypeId) (l : List Nat) : Prop := Blk w g t (ucells l)
section
variable {w w' : World} {g : Nat} {t : TypeId} {l : List Nat}
theorem URow.cell (h : URow w g t l) (i : Nat) (hi : i < l.length) : w.cell? ⟨g, i, none⟩ = some (.int .u32 ((l.getD i 0 : Nat) : Int)) := (Blk.cell h i).trans (ucells_get l i hi)
theorem URow.put (h : URow w g t l) (i z : Nat) : URow (w.setCell ⟨g, i, none⟩ (.int .u32 (z : Int))) g t (l.set i z) := by
  have := Blk.put h i (.int .u32 (z : Int))
  rw [ucells_set] at this
  exact this
theorem URow.lt (h : URow w g t l) : g < w.heap.size := Blk.lt h
theorem URow.below {B : Nat} (h : URow w g t l) (hb : Below B w w') (hg : g < B) : URow w' g t l := Blk.below h hb hg
theorem URow.up (h : URow w g t l) (hb : Below w.heap.size w w') : URow w' g t l := Blk.below h hb h.lt
theorem URow.alloc (h : URow w g t l) (o : Obj) : URow (w.alloc o) g t l := Blk.alloc h o
theorem URow.far (h : URow w g t l) {p : Addr} (hp : g ≠ p.block) (u : Value) : URow (w.setCell p u) g t l := Blk.far h hp u
theorem URow.free (h : URow w g t l) (i : Nat) : w.frozen? ⟨g, i, none⟩ = false := Blk.frozen h i
theorem URow.drewN (h : URow w g t l) (n : Nat) : URow (w.drewN n) g t l := h
end
theorem URow.new (w : World) (t : TypeId) (l : List Nat) : URow (w.alloc (.cells (ucells l) t)) w.heap.size t l := Blk.new w _ _
theorem below_setRow {B g : Nat} {a w : World} {cs : Array Value} (h : Below B a w) (hg : B ≤ g) : Below B a (w.setRow g cs) :=
  ⟨h.os, h.tape, h.output, by simpa [World.setRow] using h.size, fun k hk => by
    have e : (w.setRow g cs).heap[k]? = w.heap[k]? := by
      unfold World.setRow
      simp only [Array.getElem?_modify]
      rw [if_neg (by omega)]
    rw [e]
    exact h.block k hk⟩
/-! ### Filled place by place, over what lay there -/
def pil (f g : Nat → Nat) (n j : Nat) : List Nat := (List.range n).map fun i => if i < j then f i else g i
theorem pil_len (f g : Nat → Nat) (n j : Nat) : (pil f g n j).length = n := by simp [pil]
theorem pil_get (f g : Nat → Nat) {n j i : Nat} (h : i < n) : (pil f g n j).getD i 0 = if i < j then f i else g i := by
  rw [List.getD_eq_getElem?_getD, pil, List.getElem?_map, List.getElem?_range h]
  rfl
theorem pil_at (f g : Nat → Nat) {n j : Nat} (h : j < n) : (pil f g n j).getD j 0 = g j := by rw [pil_get f g h, if_neg (Nat.lt_irrefl _)]
theorem pil_zero (f : Nat → Nat) (l : List Nat) : pil f (fun i => l.getD i 0) l.length 0 = l := by
  apply List.ext_getElem
  · simp [pil]
  · intro i h1 h2
    simp only [pil, List.getElem_map, List.getElem_range]
    rw [if_neg (Nat.not_lt_zero _), List.getD_eq_getElem?_getD, List.getElem?_eq_getElem h2]
    rfl
theorem pil_full (f g : Nat → Nat) (n : Nat) : pil f g n n = (List.range n).map f := by
  apply List.ext_getElem
  · simp [pil]
  · intro i h1 h2
    simp [pil] at h1 ⊢
    intro h; omega
theorem pil_set (f g : Nat → Nat) (n j : Nat) : (pil f g n j).set j (f j) = pil f g n (j + 1) := by
  apply List.ext_getElem
  · simp [pil]
  · intro i h1 h2
    rw [List.getElem_set]
    simp only [pil, List.getElem_map, List.getElem_range]
    by_cases q : j = i
    · subst q
      rw [if_pos rfl, if_pos (by omega)]
    · rw [if_neg q]
      by_cases r : i < j
      · rw [if_pos r, if_pos (by omega)]
      · rw [if_neg r, if_neg (by omega)]

/-! ### The table -/
/-- The table lies there. -/
def Tab (w : World) : Prop := ∃ t fr, w.heap[(0 : Nat)]? = some (.cells (ucells K) t fr)
theorem Tab.lt {w : World} (h : Tab w) : (0 : Nat) < w.heap.size := by
  obtain ⟨t, fr, h⟩ := h
  rcases Nat.lt_or_ge (0 : Nat) w.heap.size with h' | h'
  · exact h'
  · rw [Array.getElem?_eq_none h'] at h; cases h
theorem Tab.below {w w' : World} {B : Nat} (h : Tab w) (k : Below B w w') (hB : (0 : Nat) < B) : Tab w' := by
  obtain ⟨t, fr, h⟩ := h
  refine ⟨t, fr, ?_⟩
  rw [k.block _ hB]
  exact h
theorem Tab.up {w w' : World} (h : Tab w) (k : Below w.heap.size w w') : Tab w' := h.below k h.lt
theorem Tab.cell {w : World} (h : Tab w) (i : Nat) (hi : i < 72) : w.cell? ⟨(0 : Nat), i, none⟩ = some (.int .u32 ((K.getD i 0 : Nat) : Int)) := by
  obtain ⟨t, fr, h⟩ := h
  rw [cell_of_row w _ i _ t fr h]
  exact ucells_get K i (by rw [K_len]; exact hi)

/-! ### The code -/
theorem low5 {n : Nat} (h1 : 1 ≤ n) (hn : n ≤ 31) : bits .and .u64 (IntKind.u64.wrap (-(n : Int))) 31 = ((32 - n : Nat) : Int) := by
  have e : IntKind.u64.wrap (-(n : Int)) = ((18446744073709551616 - n : Nat) : Int) := by rw [IntKind.wrap_u64]; omega
  rw [e]
  show IntKind.u64.wrap ((BitVec.ofInt 64 ((18446744073709551616 - n : Nat) : Int) &&& BitVec.ofInt 64 31).toNat : Int) = _
  have n64 : ∀ c : Nat, c < 18446744073709551616 → (BitVec.ofInt 64 (c : Int)).toNat = c := fun c hc => by rw [BitVec.toNat_ofInt]; simp; omega
  have n31 : (BitVec.ofInt 64 31).toNat = 2 ^ 5 - 1 := by decide
  rw [BitVec.toNat_and, n64 _ (by omega), n31, Nat.and_two_pow_sub_one_eq_mod, IntKind.wrap_u64]
  omega
set_option maxHeartbeats 1000000 in
theorem rotl_no (x n : Nat) (hx : x < M) (h1 : 1 ≤ n) (hn : n ≤ 31) (w : World) : Calls Tryd.prog 32 #[.int .u32 (x : Int), .int .i64 (-(n : Int))] w fun e w' => e = .returned (.int .u32 ((rot x n : Nat) : Int)) ∧ w = w' := by
  have R := rot_or hx (show n ≤ 32 by omega)
  have LY : x * 2 ^ (32 - n) % M < M := Nat.mod_lt _ (by decide)
  have LZ : x / 2 ^ n < M := Nat.lt_of_le_of_lt (Nat.div_le_self _ _) hx
  have a1 := low5 h1 hn
  have e1 : IntKind.u32.wrap ((x : Int) * 2 ^ (32 - n)) = ((x * 2 ^ (32 - n) % M : Nat) : Int) := by rw [← wrap32]; simp
  have e2 : (x : Int) / 2 ^ n = ((x / 2 ^ n : Nat) : Int) := by simp
  obtain ⟨s, hs⟩ : ∃ s, s = 32 - n := ⟨_, rfl⟩
  rw [← hs] at a1 e1 R LY
  have s1 : (s : Int) ≤ 32 := by omega
  have s0 : (0 : Int) ≤ (s : Int) := by omega
  have m1 : (n : Int) ≤ 32 := by omega
  have m0 : (0 : Int) ≤ (n : Int) := by omega
  have a2 : IntKind.u64.wrap (32 - (s : Int)) = (n : Int) := by rw [IntKind.wrap_u64]; omega
  obtain ⟨y, hy⟩ : ∃ y, y = x * 2 ^ s % M := ⟨_, rfl⟩
  obtain ⟨z, hz⟩ : ∃ z, z = x / 2 ^ n := ⟨_, rfl⟩
  obtain ⟨r, hr⟩ : ∃ r, r = rot x n := ⟨_, rfl⟩
  rw [← hy] at e1 R LY
  rw [← hz] at e2 R LZ
  rw [← hr] at R ⊢
  have e3 : bits .or .u32 (y : Int) (z : Int) = (r : Int) := by rw [u32_or LY LZ, R]
  clear hs hy hz hr R LY LZ hx h1 hn
  go_enter Tryd.func32, Tryd.ntmps32
  go_wp2_with fail
  go_ret
  exact ⟨rfl, rfl⟩
theorem rotated_no (x n : Nat) (hx : x < M) (h1 : 1 ≤ n) (hn : n ≤ 31) (w : World) : Calls Tryd.prog 30 #[.int .u32 (x : Int), .int .i64 (n : Int)] w fun e w' => e = .returned (.int .u32 ((rot x n : Nat) : Int)) ∧ w = w' := by
  have C := Lib.hid (rotl_no x n hx h1 hn w)
  have f : IntKind.i64.wrap (-(n : Int)) = -(n : Int) := IntWalk.i64_in _ (by omega)
  generalize rot x n = r at *
  go_enter Tryd.func30, Tryd.ntmps30
  go_wp2_with fail
  refine C.out.mono ?_
  rintro e w' ⟨rfl, rfl⟩
  go_wp2_with fail
  go_ret
  exact ⟨rfl, rfl⟩
end Go.Proofs.YtmlihcillheeaaaDoor.Dig1
