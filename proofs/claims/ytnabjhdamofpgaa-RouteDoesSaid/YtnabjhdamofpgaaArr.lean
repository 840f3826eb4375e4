/- Arrays of eight groups: read off an address, its first bits kept, and laid down as bytes. -/
import Derived.Test.YtnabjhdamofpgaaShelf
import Derived.Test.YtnabjhdamofpgaaAdrD
import Derived.Test.YtnabjhdamofpgaaM01
import Derived.Test.YtnabjhdamofpgaaGrp
import Derived.PlainAid
import Derived.Laws.BitsAllLaws
import Derived.Handy
set_option linter.unusedVariables false
namespace Go.Proofs.Ytnabjhdamofpgaa.Arr
open Go.RowKit Go.PlainAid Go.Proofs.Ytnabjhdamofpgaa.Sums Go.Proofs.Ytnabjhdamofpgaa.Mem Go.Proofs.Ytnabjhdamofpgaa.Blk Go.Proofs.Ytnabjhdamofpgaa.AdrD Go.Proofs.Ytnabjhdamofpgaa.Grp

/-- Eight groups as an array's cells. -/
def arr (l : List Nat) : Array Value := (l.map fun z : Nat => Value.int .u16 (z : Int)).toArray
theorem arr_size (l : List Nat) : (arr l).size = l.length := by simp [arr]
theorem arr_get (l : List Nat) (j : Nat) : (arr l)[j]? = l[j]?.map fun z : Nat => Value.int .u16 (z : Int) := by simp [arr]
theorem arr_put (l : List Nat) (j z : Nat) : (arr l).setIfInBounds j (.int .u16 (z : Int)) = arr (l.set j z) := by
  unfold arr
  rw [List.setIfInBounds_toArray, List.map_set]
theorem arr_one (l : List Nat) : (arr l).all (·.oneCell') = true := by
  rw [Array.all_eq_true_iff_forall_mem]
  intro x hx
  simp [arr] at hx
  obtain ⟨z, _, rfl⟩ := hx
  rfl

/-- A string's bytes. -/
theorem shl8 (x : Int) (h : 0 ≤ x) (k : x ≤ 255) (y : Int) (h' : 0 ≤ y) (k' : y ≤ 255) : bits .or .u16 (x * 256) y = x * 256 + y := by
  rw [u16_or _ _ (by omega) (by omega) (by omega) (by omega)]
  obtain ⟨a, rfl⟩ : ∃ a : Nat, x = a := ⟨x.toNat, by omega⟩
  obtain ⟨b, rfl⟩ : ∃ b : Nat, y = b := ⟨y.toNat, by omega⟩
  have e := Nat.shiftLeft_add_eq_or_of_lt (i := 8) (b := b) (by omega) a
  rw [Nat.shiftLeft_eq] at e
  have e1 : ((a : Int) * 256).toNat = a * 2 ^ 8 := by omega
  rw [e1, Int.toNat_natCast, ← e]
  omega

theorem put_next {l : List Nat} {k n z : Nat} (h : k < l.length) (hn : k < n) (e : l[k]? = some z) : (l.take k ++ List.replicate (n - k) 0).set k z = l.take (k + 1) ++ List.replicate (n - (k + 1)) 0 := by
  obtain ⟨m, hm⟩ : ∃ m, n - k = m + 1 := ⟨n - k - 1, by omega⟩
  have e1 : (l.take k).length = k := by rw [List.length_take]; omega
  rw [hm, List.replicate_succ, List.set_append_right _ _ (by omega), e1, Nat.sub_self, List.set_cons_zero, show n - (k + 1) = m by omega, List.take_add_one, e]
  simp

theorem put_on {l m : List Nat} {k z : Nat} (h : k < l.length) (hm : k < m.length) (e : l[k]? = some z) : (l.take k ++ m.drop k).set k z = l.take (k + 1) ++ m.drop (k + 1) := by
  have e1 : (l.take k).length = k := by rw [List.length_take]; omega
  rw [List.set_append_right _ _ (by omega), e1, Nat.sub_self, List.drop_eq_getElem_cons hm, List.set_cons_zero, List.take_add_one, e]
  simp

/-- The groups of an address, eight of them. -/
def grps (s : ByteArray) : List Nat := pad8 (grp (bts s))

theorem below_setRow {B g : Nat} {a w : World} {cs : Array Value} (h : Below B a w) (hg : B ≤ g) : Below B a (w.setRow g cs) :=
  ⟨h.os, h.tape, h.output, by simpa [World.setRow] using h.size, fun k hk => by
    have e : (w.setRow g cs).heap[k]? = w.heap[k]? := by
      unfold World.setRow
      simp only [Array.getElem?_modify]
      rw [if_neg (by omega)]
    rw [e]
    exact h.block k hk⟩

set_option maxHeartbeats 1000000 in
theorem read_any (s : ByteArray) (n : Nat) (hs : s.size = 2 * n) (hn : n ≤ 8) (w : World) :
    Calls Try.prog 35 #[.string s] w fun e w' => e = .returned (.agg (arr (grps s))) ∧ Below w.heap.size w w' := by
  have hb := get_bt s
  have HL : Hid ((grp (bts s)).length = n) := Lib.hid (by rw [grp_len, bts_len]; omega)
  have HZ := Lib.hid hs
  clear hs
  go_enter Try.func35, Try.ntmps35
  go_wp2_with fail
  have hB0 : Blk ((w.alloc (Obj.cells (arr (List.replicate 8 0)) 72)).alloc (Obj.cells (arr (List.replicate 8 0)) 72)) w.heap.size 72 (arr (List.replicate 8 0)) := (Blk.new _ _ _).alloc _
  have hB1 : Blk ((w.alloc (Obj.cells (arr (List.replicate 8 0)) 72)).alloc (Obj.cells (arr (List.replicate 8 0)) 72)) (w.heap.size + 1) 72 (arr (List.replicate 8 0)) := by have := Blk.new (w.alloc (Obj.cells (arr (List.replicate 8 0)) 72)) 72 (arr (List.replicate 8 0)); rwa [show (w.alloc (Obj.cells (arr (List.replicate 8 0)) 72)).heap.size = w.heap.size + 1 by simp] at this
  have hN : Below w.heap.size w ((w.alloc (Obj.cells (arr (List.replicate 8 0)) 72)).alloc (Obj.cells (arr (List.replicate 8 0)) 72)) := ((Below.refl _ _).alloc (Nat.le_refl _) _).alloc (by simp) _
  go_loopw [4] (fun i wr => ∃ k : Nat, i = .int .i64 (2 * (k : Int)) ∧ k ≤ n ∧ Blk wr w.heap.size 72 (arr (List.replicate 8 0)) ∧ Blk wr (w.heap.size + 1) 72 (arr ((grp (bts s)).take k ++ List.replicate (8 - k) 0)) ∧ Below w.heap.size w wr) (fun i _ => 2 * n - (intOf i).toNat)
  case atStart => exact ⟨0, rfl, Nat.zero_le _, hB0, hB1, hN⟩
  case round =>
    obtain ⟨k, rfl, hk, h0, h1, hn'⟩ := hrel
    clear hB0 hB1 hN
    by_cases hlt : k < n
    · have z1 : 2 * k < s.size := by rw [HZ.out]; omega
      have z2 : 2 * k + 1 < s.size := by rw [HZ.out]; omega
      have p0 := bt_nonneg s (2 * k)
      have p1 := bt_le s (2 * k)
      have q0 := bt_nonneg s (2 * k + 1)
      have q1 := bt_le s (2 * k + 1)
      have e0 := shl8 _ p0 p1 _ q0 q1
      have e1 : 2 * (k : Int) / 2 = k := by omega
      have e2 : (2 * (k : Int)).toNat = 2 * k := by omega
      have e3 : (2 * (k : Int) + 1).toNat = 2 * k + 1 := by omega
      have e4 : IntKind.u16.wrap (bt s (2 * k) * 256) = bt s (2 * k) * 256 := by rw [IntKind.wrap_u16]; clear e0; omega
      have e6 : (grp (bts s))[k]? = some ((bt s (2 * k)).toNat * 256 + (bt s (2 * k + 1)).toNat) := grp_at _ _ _ _ (bts_at s _ z1) (bts_at s _ z2)
      have e5 : IntKind.i64.wrap (2 * (k : Int) + 1) = 2 * (k : Int) + 1 := IntWalk.i64_in _ (by omega)
      have hcl : wr.cell? ⟨w.heap.size + 1, k, none⟩ = some (.int .u16 0) := by
        rw [h1.cell, arr_get, List.getElem?_append_right (by simp; omega)]
        rw [List.length_take, HL.out, Nat.min_eq_left hk, Nat.sub_self, List.getElem?_replicate, if_pos (by omega)]
        rfl
      have hfr := h1.frozen k
      have E6 := Lib.hid e6
      have HB := Lib.hid hb
      clear e6
      go_wp2_with fail
      go_region
      clear e0 e1 e2 e3 e4 hcl hfr
      go_wp2_with fail
      go_roundw
      case rel =>
        refine ⟨k + 1, by go_num, hlt, ?_, ?_, ?_⟩
        · exact (h0.far (p := ⟨w.heap.size + 1, k, none⟩) (by simp) _).drew
        · have := (h1.put k (.int .u16 (((bt s (2 * k)).toNat * 256 + (bt s (2 * k + 1)).toNat : Nat) : Int))).drew
          rw [arr_put, put_next (by rw [HL.out]; exact hlt) (by omega) E6.out] at this
          have e : (((bt s (2 * k)).toNat * 256 + (bt s (2 * k + 1)).toNat : Nat) : Int) = bt s (2 * k) * 256 + bt s (2 * k + 1) := by omega
          rw [e] at this
          exact this
        · exact (hn'.setCell (p := ⟨w.heap.size + 1, k, none⟩) (by simp) _).drew
      case measure => simp [intOf]; omega
    · have e : k = n := by omega
      subst e
      have h1' := h1
      rw [List.take_of_length_le (by rw [HL.out]; exact Nat.le_refl _), show List.replicate (8 - k) 0 = List.replicate (8 - (grp (bts s)).length) 0 by rw [HL.out]] at h1'
      have z : ¬ 2 * k < s.size := by rw [HZ.out]; omega
      have hsz : (arr (grps s)).size = 8 := by rw [arr_size]; unfold grps pad8; rw [List.length_append, List.length_replicate, HL.out]; omega
      clear h1 hb
      go_wp2_with (first
        | (refine wpList_load_row rfl _ _ rfl (w.heap.size + 1) rfl 72 (arr (grps s)) (0, 0) _ h1' (Try.underlying72) rfl (by rw [hsz]; kernel_rfl) ?_)
        | (refine wpList_store_row rfl _ _ _ rfl w.heap.size (arr (grps s)) rfl rfl 72 _ h0 (by rw [hsz]; kernel_rfl) (by rw [hsz]; rfl) (arr_one _) ?_))
      exact bodyPost_ret (results_cell_row rfl _ _ w.heap.size 72 (arr (grps s)) (0, 0) _ rfl (setRow_heap _ _ _ _ _ _ h0) Try.underlying72 rfl (by rw [hsz]; kernel_rfl)) rfl ⟨rfl, below_setRow hn' (Nat.le_refl _)⟩

theorem and_high (x m : Nat) (hx : x < 65536) (hm : m ≤ 16) : x &&& ((2 ^ (16 - m) - 1) <<< m) = x / 2 ^ m * 2 ^ m := by
  rw [← Nat.shiftRight_eq_div_pow, ← Nat.shiftLeft_eq]
  apply Nat.eq_of_testBit_eq
  intro j
  rw [Nat.testBit_and, Nat.testBit_shiftLeft, Nat.testBit_shiftLeft, Nat.testBit_shiftRight, Nat.testBit_two_pow_sub_one]
  by_cases h1 : m ≤ j
  · rw [show m + (j - m) = j by omega]
    by_cases h2 : j < 16
    · simp [h1, show j - m < 16 - m by omega]
    · have hj : x.testBit j = false := Nat.testBit_lt_two_pow (Nat.lt_of_lt_of_le hx (by
        have := Nat.pow_le_pow_right (n := 2) (by decide) (show 16 ≤ j by omega)
        simpa using this))
      simp [hj]
  · simp [show ¬ j ≥ m by omega]

theorem kept (x b k : Nat) (hx : x ≤ 65535) :
    bits BinOp.and IntKind.u16 (x : Int) (IntKind.u16.wrap (65535 * 2 ^ (16 - min (max ((b : Int) - 16 * (k : Int)) 0) 16).toNat)) = ((keep16 (min (b - 16 * k) 16) x : Nat) : Int) := by
  have e : (16 - min (max ((b : Int) - 16 * (k : Int)) 0) 16).toNat = 16 - min (b - 16 * k) 16 := by omega
  rw [e]
  unfold keep16
  generalize hm : 16 - min (b - 16 * k) 16 = m
  have hm' : m ≤ 16 := by omega
  have em : IntKind.u16.wrap (65535 * 2 ^ m) = (((2 ^ (16 - m) - 1) <<< m : Nat) : Int) := by
    have : m = 0 ∨ m = 1 ∨ m = 2 ∨ m = 3 ∨ m = 4 ∨ m = 5 ∨ m = 6 ∨ m = 7 ∨ m = 8 ∨ m = 9 ∨ m = 10 ∨ m = 11 ∨ m = 12 ∨ m = 13 ∨ m = 14 ∨ m = 15 ∨ m = 16 := by omega
    rcases this with h | h | h | h | h | h | h | h | h | h | h | h | h | h | h | h | h <;> subst h <;> decide +kernel
  have hlt : (2 ^ (16 - m) - 1) <<< m < 65536 := by
    rw [Nat.shiftLeft_eq]
    have : m = 0 ∨ m = 1 ∨ m = 2 ∨ m = 3 ∨ m = 4 ∨ m = 5 ∨ m = 6 ∨ m = 7 ∨ m = 8 ∨ m = 9 ∨ m = 10 ∨ m = 11 ∨ m = 12 ∨ m = 13 ∨ m = 14 ∨ m = 15 ∨ m = 16 := by omega
    rcases this with h | h | h | h | h | h | h | h | h | h | h | h | h | h | h | h | h <;> subst h <;> decide
  rw [em, u16_and_nat _ _ (by omega) hlt, and_high x m (by omega) hm']

theorem mx_in (b k : Nat) (hb : b ≤ 128) (hk : k ≤ 7) : IntKind.i64.wrap ((b : Int) - IntKind.i64.wrap (16 * (k : Int))) = (b : Int) - 16 * k := by
  rw [IntWalk.i64_in (16 * (k : Int)) (by omega), IntWalk.i64_in _ (by omega)]

set_option maxHeartbeats 1000000 in
theorem first_any (l : List Nat) (hl : l.length = 8) (hz : ∀ z ∈ l, z ≤ 65535) (b : Nat) (hb : b ≤ 128) (w : World) :
    Calls Try.prog 36 #[.agg (arr l), .int .i64 b] w fun e w' => e = .returned (.agg (arr (firstG b l))) ∧ Below w.heap.size w w' := by
  have HL := Lib.hid hl
  have HZ := Lib.hid hz
  clear hl hz
  go_enter Try.func36, Try.ntmps36
  go_wp2_with fail
  have hB0 : Blk ((w.alloc (Obj.cells (arr l) 72)).alloc (Obj.cells (arr (List.replicate 8 0)) 72)) w.heap.size 72 (arr l) := (Blk.new _ _ _).alloc _
  have hB1 : Blk ((w.alloc (Obj.cells (arr l) 72)).alloc (Obj.cells (arr (List.replicate 8 0)) 72)) (w.heap.size + 1) 72 (arr (List.replicate 8 0)) := by have := Blk.new (w.alloc (Obj.cells (arr l) 72)) 72 (arr (List.replicate 8 0)); rwa [show (w.alloc (Obj.cells (arr l) 72)).heap.size = w.heap.size + 1 by simp] at this
  have hN : Below w.heap.size w ((w.alloc (Obj.cells (arr l) 72)).alloc (Obj.cells (arr (List.replicate 8 0)) 72)) := ((Below.refl _ _).alloc (Nat.le_refl _) _).alloc (by simp) _
  go_loopw [7] (fun i wr => ∃ k : Nat, i = .int .i64 k ∧ k ≤ 8 ∧ Blk wr w.heap.size 72 (arr ((firstG b l).take k ++ l.drop k)) ∧ Blk wr (w.heap.size + 1) 72 (arr (List.replicate 8 0)) ∧ Below w.heap.size w wr) (fun i _ => 8 - (intOf i).toNat)
  case atStart => exact ⟨0, rfl, Nat.zero_le _, hB0, hB1, hN⟩
  case round =>
    obtain ⟨k, rfl, hk, h0, h1, hn'⟩ := hrel
    clear hB0 hB1 hN
    by_cases hlt : k < 8
    · obtain ⟨x, hx⟩ : ∃ x, l[k]? = some x := ⟨_, List.getElem?_eq_getElem (by rw [HL.out]; exact hlt)⟩
      have hx1 := HZ.out x (List.mem_of_getElem? hx)
      have hcl : wr.cell? ⟨w.heap.size, k, none⟩ = some (.int .u16 (x : Int)) := by
        rw [h0.cell, arr_get, List.getElem?_append_right (by rw [List.length_take]; omega), List.length_take, firstG_len, HL.out, Nat.min_eq_left hk, Nat.sub_self, List.getElem?_drop, Nat.add_zero, hx]
        rfl
      have hfr := h0.frozen k
      have E := Lib.hid hx
      clear hx
      go_wp2_with fail
      go_region
      rw [kept x b k hx1]
      clear hcl hfr
      go_wp2_with fail
      go_roundw
      case rel =>
        refine ⟨k + 1, by go_num, hlt, ?_, ?_, ?_⟩
        · have := (h0.put k (.int .u16 ((keep16 (min (b - 16 * k) 16) x : Nat) : Int))).drew
          rw [arr_put, put_on (by rw [firstG_len, HL.out]; exact hlt) (by rw [HL.out]; exact hlt) (by rw [firstG_at, E.out]; rfl)] at this
          exact this
        · exact (h1.far (p := ⟨w.heap.size, k, none⟩) (by simp) _).drew
        · exact (hn'.setCell (p := ⟨w.heap.size, k, none⟩) (Nat.le_refl _) _).drew
      case measure => simp [intOf]; omega
    · have e : k = 8 := by omega
      subst e
      rw [List.take_of_length_le (by rw [firstG_len, HL.out]; exact Nat.le_refl _), List.drop_of_length_le (by rw [HL.out]; exact Nat.le_refl _), List.append_nil] at h0
      have hsz : (arr (firstG b l)).size = 8 := by rw [arr_size, firstG_len, HL.out]
      go_wp2_with (first
        | (refine wpList_load_row rfl _ _ rfl w.heap.size rfl 72 (arr (firstG b l)) (0, 0) _ h0 (Try.underlying72) rfl (by rw [hsz]; kernel_rfl) ?_)
        | (refine wpList_store_row rfl _ _ _ rfl (w.heap.size + 1) (arr (firstG b l)) rfl rfl 72 _ h1 (by rw [hsz]; kernel_rfl) (by rw [hsz]; rfl) (arr_one _) ?_))
      exact bodyPost_ret (results_cell_row rfl _ _ (w.heap.size + 1) 72 (arr (firstG b l)) (0, 0) _ rfl (setRow_heap _ _ _ _ _ _ h1) Try.underlying72 rfl (by rw [hsz]; kernel_rfl)) rfl ⟨rfl, below_setRow hn' (by omega)⟩

theorem arr_len : Try.prog.arrayLen 72 = 8 := by kernel_rfl
theorem arr_elem (w : World) : (sizeOf (Try.prog.elem 72)).run Try.prog w = .ok 1 w := by kernel_rfl

theorem arr_to (g m : Nat) (hm : m ≤ 8) (w : World) :
    (Instr.sliceAt 72 (.pointer (some ⟨g, 0, none⟩)) none (some (.int .i64 (m : Int))) none).run Try.prog w = .ok (.slice (some ⟨g, 0, none⟩) m 8) w := by
  rw [run_sliceAt_array_h w 72 ⟨g, 0, none⟩ (by kernel_rfl) .i64 m (by omega) (by rw [arr_len]; omega), arr_elem, arr_len]
  simp only [Result.andThen_ok, Int.toNat_natCast, slicedAt, Nat.sub_zero]
  rw [if_neg (by omega), Nat.zero_mul, add_plain]

theorem arr_all (g : Nat) (w : World) :
    (Instr.sliceAt 72 (.pointer (some ⟨g, 0, none⟩)) none none none).run Try.prog w = .ok (.slice (some ⟨g, 0, none⟩) 8 8) w := by
  rw [run_sliceAt_array_all w 72 ⟨g, 0, none⟩ (by kernel_rfl), arr_elem, arr_len]
  simp only [Result.andThen_ok, slicedAt, Nat.sub_zero]
  rw [if_neg (by omega), Nat.zero_mul, add_plain]

theorem arr_from (g j : Nat) (hj : j ≤ 8) (w : World) :
    (Instr.sliceAt 72 (.pointer (some ⟨g, 0, none⟩)) (some (.int .i64 (j : Int))) none none).run Try.prog w = .ok (.slice (some ⟨g, if j = 8 then 0 else j, none⟩) (8 - j) (8 - j)) w := by
  rw [run_sliceAt_array_l w 72 ⟨g, 0, none⟩ (by kernel_rfl) .i64 j (by omega) (by rw [arr_len]; omega), arr_elem, arr_len]
  simp only [Result.andThen_ok, Int.toNat_natCast, slicedAt, Nat.mul_one]
  by_cases h : j = 8
  · subst h
    rfl
  · rw [if_neg (by omega), if_neg h, add_plain, Nat.zero_add]

end Go.Proofs.Ytnabjhdamofpgaa.Arr
