/- strconv.FormatUint at base 16, of numbers of 16 bits. -/
import Derived.Test.YtggahoocgijdkaaDoorStd
import Derived.Laws.BitsAllLaws
import Derived.Handy
set_option linter.unusedVariables false
namespace Go.Proofs.YtggahoocgijdkaaDoor.Fmt
open Go.RowKit Go.Proofs.YtggahoocgijdkaaDoor.Sums Go.Proofs.YtggahoocgijdkaaDoor.Mem Go.Proofs.YtggahoocgijdkaaDoor.Std

/-- A digit. -/
def hd (d : Nat) : Nat := if d < 10 then 48 + d else 87 + d
/-- A number's digits to the base 16. -/
def hexN (n : Nat) : List Nat := if h : n < 16 then [hd n] else hexN (n / 16) ++ [hd (n % 16)]
termination_by n
decreasing_by omega

theorem hexN_small {n : Nat} (h : n < 16) : hexN n = [hd n] := by rw [hexN, dif_pos h]
theorem hexN_step {n : Nat} (h : 16 ≤ n) : hexN n = hexN (n / 16) ++ [hd (n % 16)] := by rw [hexN, dif_neg (by omega)]

theorem pow_any (w : World) : Calls Tryd.prog 97 #[.int .i64 16] w fun e w' => e = .returned (.bool true) ∧ w = w' := by
  go_enter Tryd.func97, Tryd.ntmps97
  go_wp2
  go_ret
  exact ⟨rfl, rfl⟩

theorem tz64 (w : World) (h : Std w) : Calls Tryd.prog 100 #[.int .u64 16] w fun e w' => e = .returned (.int .i64 4) ∧ w = w' := by
  have ht := h.tz
  have e : IntKind.u64.wrap (bits BinOp.and IntKind.u64 16 (IntKind.u64.wrap (-16)) * 285870213051353865) / 288230376151711744 = 15 := by decide +kernel
  clear h
  go_enter Tryd.func100, Tryd.ntmps100
  go_wp2
  go_ret
  exact ⟨rfl, rfl⟩

theorem tz_any (w : World) (h : Std w) : Calls Tryd.prog 98 #[.int .u64 16] w fun e w' => e = .returned (.int .i64 4) ∧ w = w' := by
  go_enter Tryd.func98, Tryd.ntmps98
  go_wp2_with fail
  refine (tz64 _ h).mono ?_; rintro e w' ⟨rfl, rfl⟩
  go_wp2_with fail
  go_ret
  exact ⟨rfl, rfl⟩

/-- The array in which the digits are laid, from its end. -/
def cells (l : List Nat) : Array Value := (List.replicate (65 - l.length) (Value.int .u8 0) ++ l.map fun z : Nat => Value.int .u8 (z : Int)).toArray

theorem cells_at {l : List Nat} {j : Nat} (h : j + l.length < 65) : (cells l)[j]? = some (Value.int .u8 0) := by
  unfold cells
  rw [List.getElem?_toArray, List.getElem?_append_left (by simp; omega), List.getElem?_replicate, if_pos (by omega)]
theorem cells_put {l : List Nat} {j : Nat} (d : Nat) (h : j + l.length = 64) : (cells l).setIfInBounds j (.int .u8 (d : Int)) = cells (d :: l) := by
  obtain ⟨e, e'⟩ : 65 - l.length = j + 1 ∧ 65 - (d :: l).length = j := by simp only [List.length_cons]; omega
  unfold cells
  rw [e, e', List.setIfInBounds_toArray, List.replicate_succ', List.append_assoc, List.set_append_right _ _ (by simp)]
  simp

theorem arr_from (g j : Nat) (hj : j < 65) (w : World) :
    (Instr.sliceAt 117 (.pointer (some ⟨g, 0, none⟩)) (some (.int .i64 (j : Int))) none none).run Tryd.prog w = .ok (.slice (some ⟨g, j, none⟩) (65 - j) (65 - j)) w := by
  have e : Tryd.prog.arrayLen 117 = 65 := by kernel_rfl
  have s : (sizeOf (Tryd.prog.elem 117)).run Tryd.prog w = .ok 1 w := by kernel_rfl
  rw [run_sliceAt_array_l w 117 ⟨g, 0, none⟩ (by kernel_rfl) .i64 j (by omega) (by rw [e]; omega), s, e]
  simp only [Result.andThen_ok, Int.toNat_natCast, slicedAt, Nat.mul_one]
  rw [if_neg (by omega), add_plain, Nat.zero_add]

theorem hd_at (n : Nat) (h : n < 16) (k : n < (⟨#[48, 49, 50, 51, 52, 53, 54, 55, 56, 57, 97, 98, 99, 100, 101, 102, 103, 104, 105, 106, 107, 108, 109, 110, 111, 112, 113, 114, 115, 116, 117, 118, 119, 120, 121, 122]⟩ : ByteArray).size) :
    (⟨#[48, 49, 50, 51, 52, 53, 54, 55, 56, 57, 97, 98, 99, 100, 101, 102, 103, 104, 105, 106, 107, 108, 109, 110, 111, 112, 113, 114, 115, 116, 117, 118, 119, 120, 121, 122]⟩ : ByteArray)[n].toNat = hd n := by
  have all : ∀ i : Fin 16, (#[48, 49, 50, 51, 52, 53, 54, 55, 56, 57, 97, 98, 99, 100, 101, 102, 103, 104, 105, 106, 107, 108, 109, 110, 111, 112, 113, 114, 115, 116, 117, 118, 119, 120, 121, 122] : Array UInt8)[i.val]!.toNat = hd i.val := by decide
  have := all ⟨n, h⟩
  simp only at this
  rw [← this, getElem!_pos _ _ (by simp; omega)]
  rfl

theorem hd_byte (d : Nat) (h : d < 16) : hd d ≤ 255 := by unfold hd; split <;> omega
theorem hexN_byte (n z : Nat) (h : z ∈ hexN n) : z ≤ 255 := by
  induction n using hexN.induct with
  | case1 n hn => rw [hexN_small hn] at h; simp at h; subst h; exact hd_byte n hn
  | case2 n hn ih =>
    rw [hexN_step (by omega)] at h
    rcases List.mem_append.1 h with h | h
    · exact ih h
    · simp at h; subst h; exact hd_byte _ (Nat.mod_lt _ (by decide))

theorem text_of {w : World} {g j : Nat} {l : List Nat} (h : Blk w g 117 (cells l)) (hj : j + l.length = 65) (hl : ∀ z ∈ l, z ≤ 255) :
    (convert 41 9 (.slice (some ⟨g, j, none⟩) (65 - j) (65 - j))).run Tryd.prog w = .ok (.string ⟨(l.map fun z => UInt8.ofNat z).toArray⟩) w := by
  have hh : Holds w w.heap.size (some ⟨g, j, none⟩) (65 - j) (65 - j) (l.map fun z : Nat => (z : Int)) := by
    refine ⟨by simp; omega, Nat.le_refl _, by simp only [maxLen]; omega, fun z hz => ?_, fun _ => ⟨g, j, rfl, h.lt, fun i z hz => ?_⟩⟩
    · simp only [List.mem_map] at hz
      obtain ⟨y, hy, rfl⟩ := hz
      have := hl y hy
      omega
    · rw [h.cell]
      unfold cells
      have e : 65 - l.length = j := by omega
      rw [e, List.getElem?_toArray, List.getElem?_append_right (by simp), List.length_replicate, Nat.add_sub_cancel_left, List.getElem?_map]
      rw [List.getElem?_map] at hz
      cases hl' : l[i]? with
      | none => rw [hl'] at hz; cases hz
      | some y => rw [hl'] at hz; cases hz; rfl
  rw [run_string_bytes hh]
  congr 3
  unfold strOfNums
  simp

def Room (n : Nat) (l : List Nat) : Prop := (l.length = 0 ∧ n ≤ 65535) ∨ (l.length = 1 ∧ n ≤ 4095) ∨ (l.length = 2 ∧ n ≤ 255) ∨ (l.length = 3 ∧ n ≤ 15)

set_option maxRecDepth 100000 in
set_option maxHeartbeats 1000000 in
theorem bits_any (x : Nat) (hx : x ≤ 65535) (w : World) (h : Std w) :
    Calls Tryd.prog 90 #[.slice none 0 0, .int .u64 x, .int .i64 16, .bool false, .bool false] w fun e w' =>
      e = .returned (.tuple #[.slice none 0 0, .string ⟨((hexN x).map fun z => UInt8.ofNat z).toArray⟩]) ∧ Below w.heap.size w w' := by
  go_enter Tryd.func90, Tryd.ntmps90
  go_wp2_with fail
  refine (pow_any _).mono ?_; rintro e w' ⟨rfl, rfl⟩
  go_wp2_with fail
  have hW : Std (w.alloc (Obj.cells Tryd.zeroCells117 117)) := h.alloc _
  have hB : Blk (w.alloc (Obj.cells Tryd.zeroCells117 117)) w.heap.size 117 (cells []) := Blk.new _ _ _
  have hN : Below w.heap.size w (w.alloc (Obj.cells Tryd.zeroCells117 117)) := (Below.refl _ _).alloc (Nat.le_refl _) _
  generalize w.alloc (Obj.cells Tryd.zeroCells117 117) = W at hW hB hN ⊢
  refine (tz_any _ hW).mono ?_; rintro e w' ⟨rfl, rfl⟩
  go_wp2_with fail
  go_loopw [1, 13] (fun u i wr => ∃ (n k : Nat) (l : List Nat), u = .int .u64 n ∧ i = .int .i64 k ∧ k + l.length = 65 ∧ Room n l ∧ hexN n ++ l = hexN x ∧ Blk wr w.heap.size 117 (cells l) ∧ Below w.heap.size w wr) (fun u _ _ => (intOf u).toNat)
  case atStart => exact ⟨x, 65, [], rfl, rfl, rfl, .inl ⟨rfl, hx⟩, by simp, hB, hN⟩
  case round =>
    obtain ⟨n, k, l, rfl, rfl, hk, hr, hl, hb, hn⟩ := hrel
    have hr' : n ≤ 65535 ∧ 62 ≤ k ∧ k ≤ 65 ∧ (16 ≤ n → 63 ≤ k) := by unfold Room at hr; omega
    obtain ⟨r1, r2, r3, r4⟩ := hr'
    obtain ⟨j, rfl⟩ : ∃ j, k = j + 1 := ⟨k - 1, by omega⟩
    have hc : wr.cell? ⟨w.heap.size, j, none⟩ = some (.int .u8 0) := by rw [hb.cell]; exact cells_at (by omega)
    have hf := hb.frozen j
    by_cases h16 : 16 ≤ n
    · have e : bits BinOp.and IntKind.u64 (n : Int) 15 = ((n % 16 : Nat) : Int) := by
        rw [show (15 : Int) = ((15 : Nat) : Int) from rfl, u64_and_nat n 15 (by omega) (by omega), show n &&& 15 = n % 16 from Nat.and_two_pow_sub_one_eq_mod n 4]
      have hlt : n % 16 < 16 := Nat.mod_lt _ (by decide)
      go_wp2_with fail
      go_roundw
      case rel =>
        rw [hd_at _ hlt]
        refine ⟨n / 16, j, hd (n % 16) :: l, by simp, rfl, by simp; omega, ?_, ?_, ?_, ?_⟩
        · unfold Room at hr ⊢; simp only [List.length_cons]; omega
        · rw [← hl, hexN_step h16]; simp
        · have := hb.put j (.int .u8 (hd (n % 16) : Nat)); rw [cells_put _ (by omega)] at this; exact this
        · exact hn.setCell (p := ⟨w.heap.size, j, none⟩) (Nat.le_refl _) _
      case measure => simp [intOf]; omega
    · have hs := arr_from w.heap.size j (by omega)
      have hlt : n < 16 := by omega
      have hh := hd_at n hlt
      have hp := hb.put j (.int .u8 (hd n : Nat))
      rw [cells_put _ (by omega)] at hp
      have hN' := hn.setCell (p := ⟨w.heap.size, j, none⟩) (Nat.le_refl _) (.int .u8 (hd n : Nat))
      have ht := text_of (l := hd n :: l) (j := j) hp (by simp only [List.length_cons]; omega) (fun z hz => by
        have : z ∈ hexN x := by rw [← hl, hexN_small hlt]; simpa using hz
        exact hexN_byte x z this)
      rw [show hd n :: l = hexN x by rw [← hl, hexN_small hlt]; rfl] at ht
      go_wp2_with fail
      go_ret2
      exact ⟨rfl, hN'⟩

/-- A number's text to the base 16. -/
def hexs (n : Nat) : List UInt8 := (hexN n).map fun z => UInt8.ofNat z

theorem inner_any (x : Nat) (hx : x ≤ 65535) (w : World) (h : Std w) :
    Calls Tryd.prog 79 #[.int .u64 x, .int .i64 16] w fun e w' => e = .returned (.string ⟨(hexs x).toArray⟩) ∧ Below w.heap.size w w' := by
  go_enter Tryd.func79, Tryd.ntmps79
  go_wp2_with fail
  refine (bits_any x hx _ h).mono ?_; rintro e w' ⟨rfl, hb⟩
  go_wp2_with fail
  go_ret
  exact ⟨rfl, hb⟩

theorem fmt_any (x : Nat) (hx : x ≤ 65535) (w : World) (h : Std w) :
    Calls Tryd.prog 62 #[.int .u64 x, .int .i64 16] w fun e w' => e = .returned (.string ⟨(hexs x).toArray⟩) ∧ Below w.heap.size w w' := by
  go_enter Tryd.func62, Tryd.ntmps62
  go_wp2_with fail
  refine (inner_any x hx _ h).mono ?_; rintro e w' ⟨rfl, hb⟩
  go_wp2_with fail
  go_ret
  exact ⟨rfl, hb⟩

end Go.Proofs.YtggahoocgijdkaaDoor.Fmt
