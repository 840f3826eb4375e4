/- Masks of masks: plain facts. -/
import Derived.Test.YtggahoocgijdkaaDoorIn
set_option linter.unusedVariables false
namespace Go.Proofs.YtggahoocgijdkaaDoor.Masks
open Go.Proofs.YtggahoocgijdkaaDoor.Grp Go.Proofs.YtggahoocgijdkaaDoor.Arr Go.Proofs.YtggahoocgijdkaaDoor.Mask Go.Proofs.YtggahoocgijdkaaDoor.In

theorem bts_txt (l : List Nat) (h : ∀ z ∈ l, z ≤ 255) : bts (txt l) = l := by
  unfold bts txt
  rw [List.map_map]
  refine (List.map_congr_left fun z hz => ?_).trans (List.map_id l)
  have := h z hz
  simp only [Function.comp_apply, UInt8.toNat_ofNat', id]
  omega
theorem txt_bts (s : ByteArray) : txt (bts s) = s := by
  unfold bts txt
  cases s with
  | mk d =>
    congr 1
    simp [List.map_map, Function.comp_def]
theorem txt_size (l : List Nat) : (txt l).size = l.length := by
  unfold txt
  rw [Lib.size_eq]
  simp

theorem maskB_len : ∀ (b : Nat) (l : List Nat), (maskB b l).length = l.length
  | _, [] => rfl
  | b, x :: r => by simp [maskB, maskB_len (b - 8) r]
theorem maskB_le : ∀ (b : Nat) (l : List Nat), (∀ z ∈ l, z ≤ 255) → ∀ z ∈ maskB b l, z ≤ 255
  | _, [], _, _, h => by simp [maskB] at h
  | b, x :: r, h, z, hz => by
    simp only [maskB, List.mem_cons] at hz
    rcases hz with rfl | hz
    · exact Nat.le_trans (keep8_le _ _) (h x (by simp))
    · exact maskB_le (b - 8) r (fun z hz => h z (by simp [hz])) z hz
theorem keep_keep (k j x : Nat) : keep8 k (keep8 j x) = keep8 (min k j) x := by
  unfold keep8
  rcases Nat.le_total k j with h | h
  · rw [Nat.min_eq_left h]
    obtain ⟨c, hc⟩ : ∃ c, 2 ^ (8 - k) = 2 ^ (8 - j) * c := ⟨2 ^ ((8 - k) - (8 - j)), by rw [← Nat.pow_add]; congr 1; omega⟩
    have hp : 0 < 2 ^ (8 - j) := Nat.two_pow_pos _
    rw [hc, ← Nat.div_div_eq_div_mul, Nat.mul_div_cancel _ hp, Nat.div_div_eq_div_mul]
  · rw [Nat.min_eq_right h]
    obtain ⟨c, hc⟩ : ∃ c, 2 ^ (8 - j) = c * 2 ^ (8 - k) := ⟨2 ^ ((8 - j) - (8 - k)), by rw [← Nat.pow_add]; congr 1; omega⟩
    have hp : 0 < 2 ^ (8 - k) := Nat.two_pow_pos _
    rw [hc, ← Nat.mul_assoc, Nat.mul_div_cancel _ hp]
theorem mask_mask : ∀ (n m : Nat) (l : List Nat), maskB n (maskB m l) = maskB (min n m) l
  | _, _, [] => rfl
  | n, m, x :: r => by
    simp only [maskB, keep_keep, mask_mask (n - 8) (m - 8) r]
    rw [show min (min n 8) (min m 8) = min (min n m) 8 by omega, show min (n - 8) (m - 8) = min n m - 8 by omega]
theorem bts_mask (s : ByteArray) (b : Nat) : bts (maskS s b) = maskB b (bts s) := bts_txt _ (maskB_le _ _ (bts_le s))
theorem mask_size (s : ByteArray) (b : Nat) : (maskS s b).size = s.size := by
  unfold maskS
  rw [txt_size, maskB_len, bts_len]
theorem maskS_mask (s : ByteArray) (m n : Nat) : maskS (maskS s m) n = maskS s (min n m) := by
  unfold maskS
  rw [show bts (txt (maskB m (bts s))) = maskB m (bts s) from bts_mask s m, mask_mask]
theorem in_own (s : ByteArray) (m : Int) (h : fitB s.size m = true) : inB s (maskS s m.toNat) m = true := by
  unfold inB
  rw [mask_size, h, bts_mask, mask_mask, Nat.min_self]
  simp
theorem in_other (s : ByteArray) (m : Int) (h : fitB s.size m = true) : inB (maskS s m.toNat) s m = true := by
  unfold inB
  rw [mask_size, h, bts_mask, mask_mask, Nat.min_self]
  simp
theorem in_less (s : ByteArray) (m n : Int) (h : fitB s.size m = true) (k : m ≤ n) : inB (maskS s n.toNat) (maskS s m.toNat) m = true := by
  unfold inB
  rw [mask_size, mask_size, h, bts_mask, bts_mask, mask_mask, mask_mask, Nat.min_self, Nat.min_eq_left (by omega)]
  simp
theorem fit_min (k : Nat) (m n : Int) (h : fitB k m = true) (h' : fitB k n = true) : fitB k (min m n) = true := by
  rcases Int.le_total m n with e | e
  · rwa [Int.min_eq_left e]
  · rwa [Int.min_eq_right e]

end Go.Proofs.YtggahoocgijdkaaDoor.Masks
