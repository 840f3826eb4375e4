/- Addresses: their first bits, their order. Plain facts; no function is named. -/
import Derived.Test.YtnabjhdamofpgaaGrp
import Derived.Test.YtnabjhdamofpgaaM01
import Derived.PlainAid
import Derived.Handy
import Derived.Lib.Bytealg
import Derived.Lib.Small
import Derived.Lib.Strings
import Derived.Laws.BitsAllLaws
set_option linter.unusedVariables false
namespace Go.Proofs.Ytnabjhdamofpgaa.AdrD
open Go.RowKit Go.PlainAid Go.Proofs.Ytnabjhdamofpgaa.Sums Go.Proofs.Ytnabjhdamofpgaa.Mem Go.Proofs.Ytnabjhdamofpgaa.Grp
open Go.Lib (compareBytes compareInt)
/-- A string's bytes. -/
def bts (s : ByteArray) : List Nat := s.data.toList.map fun c => c.toNat
theorem bts_len (s : ByteArray) : (bts s).length = s.size := by rw [bts, List.length_map, Array.length_toList]; rfl
theorem bts_le (s : ByteArray) : ∀ z ∈ bts s, z ≤ 255 := by
  intro z hz
  simp only [bts, List.mem_map] at hz
  obtain ⟨c, _, rfl⟩ := hz
  have := c.toNat_lt
  omega
theorem bts_at (s : ByteArray) (k : Nat) (h : k < s.size) : (bts s)[k]? = some (bt s k).toNat := by
  unfold bts bt
  rw [List.getElem?_map, dif_pos h, List.getElem?_eq_getElem (by rw [Array.length_toList]; exact h)]
  simp
  rfl
/-- Bytes as integers. -/
def ints (l : List Nat) : List Int := l.map fun z : Nat => (z : Int)
/-- A text of bytes. -/
def txt (l : List Nat) : ByteArray := ⟨(l.map fun z => UInt8.ofNat z).toArray⟩
theorem txt_of (l : List Nat) : strOfNums (ints l) = txt l := by
  unfold strOfNums txt ints
  simp [List.map_map]
theorem ints_bytes (l : List Nat) (h : ∀ z ∈ l, z ≤ 255) : Bytes (ints l) := by
  intro z hz
  simp only [ints, List.mem_map] at hz
  obtain ⟨y, hy, rfl⟩ := hz
  have := h y hy
  omega
/-- Is it an address that has so many bits? -/
def fitB (n : Nat) (b : Int) : Bool := (n == 4 || n == 16) && decide (0 ≤ b) && decide (b ≤ 8 * n)
/-- The first bits of a text, the others cleared. -/
def maskS (s : ByteArray) (b : Nat) : ByteArray := txt (maskB b (bts s))
theorem bts_txt (l : List Nat) (h : ∀ z ∈ l, z ≤ 255) : bts (txt l) = l := by
  unfold bts txt
  rw [List.map_map]
  refine (List.map_congr_left fun z hz => ?_).trans (List.map_id l)
  have := h z hz
  simp only [Function.comp_apply, UInt8.toNat_ofNat', id]
  omega
theorem txt_bts (s : ByteArray) : txt (bts s) = s := by
  unfold bts txt
  cases s with
  | mk d =>
    congr 1
    simp [List.map_map, Function.comp_def]
theorem txt_size (l : List Nat) : (txt l).size = l.length := by
  unfold txt
  rw [Lib.size_eq]
  simp
theorem maskB_len : ∀ (b : Nat) (l : List Nat), (maskB b l).length = l.length
  | _, [] => rfl
  | b, x :: r => by simp [maskB, maskB_len (b - 8) r]
theorem maskB_le : ∀ (b : Nat) (l : List Nat), (∀ z ∈ l, z ≤ 255) → ∀ z ∈ maskB b l, z ≤ 255
  | _, [], _, _, h => by simp [maskB] at h
  | b, x :: r, h, z, hz => by
    simp only [maskB, List.mem_cons] at hz
    rcases hz with rfl | hz
    · exact Nat.le_trans (keep8_le _ _) (h x (by simp))
    · exact maskB_le (b - 8) r (fun z hz => h z (by simp [hz])) z hz
theorem keep_keep (k j x : Nat) : keep8 k (keep8 j x) = keep8 (min k j) x := by
  unfold keep8
  rcases Nat.le_total k j with h | h
  · rw [Nat.min_eq_left h]
    obtain ⟨c, hc⟩ : ∃ c, 2 ^ (8 - k) = 2 ^ (8 - j) * c := ⟨2 ^ ((8 - k) - (8 - j)), by rw [← Nat.pow_add]; congr 1; omega⟩
    have hp : 0 < 2 ^ (8 - j) := Nat.two_pow_pos _
    rw [hc, ← Nat.div_div_eq_div_mul, Nat.mul_div_cancel _ hp, Nat.div_div_eq_div_mul]
  · rw [Nat.min_eq_right h]
    obtain ⟨c, hc⟩ : ∃ c, 2 ^ (8 - j) = c * 2 ^ (8 - k) := ⟨2 ^ ((8 - j) - (8 - k)), by rw [← Nat.pow_add]; congr 1; omega⟩
    have hp : 0 < 2 ^ (8 - k) := Nat.two_pow_pos _
    rw [hc, ← Nat.mul_assoc, Nat.mul_div_cancel _ hp]
theorem mask_mask : ∀ (n m : Nat) (l : List Nat), maskB n (maskB m l) = maskB (min n m) l
  | _, _, [] => rfl
  | n, m, x :: r => by
    simp only [maskB, keep_keep, mask_mask (n - 8) (m - 8) r]
    rw [show min (min n 8) (min m 8) = min (min n m) 8 by omega, show min (n - 8) (m - 8) = min n m - 8 by omega]
theorem bts_mask (s : ByteArray) (b : Nat) : bts (maskS s b) = maskB b (bts s) := bts_txt _ (maskB_le _ _ (bts_le s))
theorem mask_size (s : ByteArray) (b : Nat) : (maskS s b).size = s.size := by
  unfold maskS
  rw [txt_size, maskB_len, bts_len]
theorem maskS_mask (s : ByteArray) (m n : Nat) : maskS (maskS s m) n = maskS s (min n m) := by
  unfold maskS
  rw [show bts (txt (maskB m (bts s))) = maskB m (bts s) from bts_mask s m, mask_mask]
/-- Is it in the prefix? -/
def inB (s p : ByteArray) (b : Int) : Bool := (s.size == p.size) && fitB p.size b && decide (maskB b.toNat (bts s) = maskB b.toNat (bts p))
theorem in_own (s : ByteArray) (m : Int) (h : fitB s.size m = true) : inB s (maskS s m.toNat) m = true := by
  unfold inB
  rw [mask_size, h, bts_mask, mask_mask, Nat.min_self]
  simp
theorem in_other (s : ByteArray) (m : Int) (h : fitB s.size m = true) : inB (maskS s m.toNat) s m = true := by
  unfold inB
  rw [mask_size, h, bts_mask, mask_mask, Nat.min_self]
  simp
theorem in_less (s : ByteArray) (m n : Int) (h : fitB s.size m = true) (k : m ≤ n) : inB (maskS s n.toNat) (maskS s m.toNat) m = true := by
  unfold inB
  rw [mask_size, mask_size, h, bts_mask, bts_mask, mask_mask, mask_mask, Nat.min_self, Nat.min_eq_left (by omega)]
  simp
theorem fit_min (k : Nat) (m n : Int) (h : fitB k m = true) (h' : fitB k n = true) : fitB k (min m n) = true := by
  rcases Int.le_total m n with e | e
  · rwa [Int.min_eq_left e]
  · rwa [Int.min_eq_right e]
def orI (x y : Int) : Int := if x = 0 then y else x
/-- The order of two texts. -/
def ordS (a b : ByteArray) : Int := orI (Lib.compareInt (a.size : Int) (b.size : Int)) (Lib.compareBytes a.data.toList b.data.toList)
theorem cb_in : ∀ a b : List UInt8, compareBytes a b = -1 ∨ compareBytes a b = 0 ∨ compareBytes a b = 1
  | [], [] => .inr (.inl rfl)
  | [], _ :: _ => .inl rfl
  | _ :: _, [] => .inr (.inr rfl)
  | x :: a, y :: b => by
    unfold compareBytes
    split
    · exact .inl rfl
    · split
      · exact .inr (.inr rfl)
      · exact cb_in a b
theorem cb_neg : ∀ a b : List UInt8, compareBytes b a = - compareBytes a b
  | [], [] => rfl
  | [], _ :: _ => rfl
  | _ :: _, [] => rfl
  | x :: a, y :: b => by
    have ih := cb_neg a b
    unfold compareBytes
    by_cases h1 : x < y
    · have h2 : ¬ y < x := by rw [UInt8.lt_iff_toNat_lt] at *; omega
      simp [h1, h2]
    · by_cases h2 : y < x
      · simp [h1, h2]
      · simp [h1, h2, ih]
theorem cb_zero : ∀ a b : List UInt8, compareBytes a b = 0 ↔ a = b
  | [], [] => by simp [compareBytes]
  | [], _ :: _ => by simp [compareBytes]
  | _ :: _, [] => by simp [compareBytes]
  | x :: a, y :: b => by
    have ih := cb_zero a b
    unfold compareBytes
    by_cases h1 : x < y
    · have : x ≠ y := fun e => by subst e; exact absurd h1 (by rw [UInt8.lt_iff_toNat_lt]; omega)
      simp [h1, this]
    · by_cases h2 : y < x
      · have : x ≠ y := fun e => by subst e; exact absurd h2 (by rw [UInt8.lt_iff_toNat_lt]; omega)
        simp [h1, h2, this]
      · have : x = y := UInt8.toNat_inj.1 (by rw [UInt8.lt_iff_toNat_lt] at *; omega)
        subst this
        simp [ih]
theorem cb_trans : ∀ a b c : List UInt8, compareBytes a b ≤ 0 → compareBytes b c ≤ 0 → compareBytes a c ≤ 0
  | [], b, c, _, _ => by cases c <;> simp [compareBytes]
  | x :: a, [], c, h, _ => by simp [compareBytes] at h
  | x :: a, y :: b, [], _, h => by simp [compareBytes] at h
  | x :: a, y :: b, z :: c, h, k => by
    have ih := cb_trans a b c
    unfold compareBytes at h k ⊢
    simp only [UInt8.lt_iff_toNat_lt] at h k ⊢
    split at h
    · rename_i h1
      split at k
      · rw [if_pos (by omega)]; omega
      · split at k
        · omega
        · rw [if_pos (by omega)]; omega
    · split at h
      · omega
      · split at k
        · rw [if_pos (by omega)]; omega
        · split at k
          · omega
          · rw [if_neg (by omega), if_neg (by omega)]
            exact ih h k
theorem ord_cases (a b : ByteArray) : (a.size < b.size ∧ ordS a b = -1) ∨ (b.size < a.size ∧ ordS a b = 1) ∨ (a.size = b.size ∧ ordS a b = compareBytes a.data.toList b.data.toList) := by
  rcases Nat.lt_trichotomy a.size b.size with h | h | h
  · left
    have e : compareInt (a.size : Int) (b.size : Int) = -1 := by unfold compareInt; rw [if_pos (by omega)]
    exact ⟨h, by unfold ordS orI; rw [e]; rfl⟩
  · right; right
    have e : compareInt (a.size : Int) (b.size : Int) = 0 := by unfold compareInt; rw [if_neg (by omega), if_neg (by omega)]
    exact ⟨h, by unfold ordS orI; rw [e]; rfl⟩
  · right; left
    have e : compareInt (a.size : Int) (b.size : Int) = 1 := by unfold compareInt; rw [if_neg (by omega), if_pos (by omega)]
    exact ⟨h, by unfold ordS orI; rw [e]; rfl⟩
theorem ord_in (a b : ByteArray) : -1 ≤ ordS a b ∧ ordS a b ≤ 1 := by
  have := cb_in a.data.toList b.data.toList
  rcases ord_cases a b with ⟨_, h⟩ | ⟨_, h⟩ | ⟨_, h⟩ <;> omega
theorem ord_neg (a b : ByteArray) : ordS b a = - ordS a b := by
  have := cb_neg a.data.toList b.data.toList
  rcases ord_cases a b with ⟨h, e⟩ | ⟨h, e⟩ | ⟨h, e⟩ <;> rcases ord_cases b a with ⟨h', e'⟩ | ⟨h', e'⟩ | ⟨h', e'⟩ <;> omega
theorem ord_zero (a b : ByteArray) : ordS a b = 0 ↔ a = b := by
  have hz := cb_zero a.data.toList b.data.toList
  constructor
  · intro h
    rcases ord_cases a b with ⟨_, e⟩ | ⟨_, e⟩ | ⟨_, e⟩
    · omega
    · omega
    · exact ByteArray.ext (Array.toList_inj.1 (hz.1 (by omega)))
  · rintro rfl
    rcases ord_cases a a with ⟨h, e⟩ | ⟨h, e⟩ | ⟨h, e⟩
    · omega
    · omega
    · rw [e, hz.2 rfl]
theorem ord_trans (a b c : ByteArray) (h : ordS a b ≤ 0) (k : ordS b c ≤ 0) : ordS a c ≤ 0 := by
  have := cb_trans a.data.toList b.data.toList c.data.toList
  rcases ord_cases a b with ⟨h1, e1⟩ | ⟨h1, e1⟩ | ⟨h1, e1⟩ <;> rcases ord_cases b c with ⟨h2, e2⟩ | ⟨h2, e2⟩ | ⟨h2, e2⟩ <;> rcases ord_cases a c with ⟨h3, e3⟩ | ⟨h3, e3⟩ | ⟨h3, e3⟩ <;> omega
theorem less_iff : ∀ a b : List UInt8, Op.bytesLess a b = decide (Lib.compareBytes a b = -1)
  | [], [] => by decide
  | [], _ :: _ => by simp [Op.bytesLess, Lib.compareBytes]
  | _ :: _, [] => by simp [Op.bytesLess, Lib.compareBytes]
  | x :: a, y :: b => by
    have ih := less_iff a b
    unfold Op.bytesLess Lib.compareBytes
    by_cases h1 : x < y
    · simp [h1]
    · by_cases h2 : y < x
      · have h3 : x ≠ y := fun e => by subst e; exact absurd h2 (by rw [UInt8.lt_iff_toNat_lt]; omega)
        simp [h1, h2, h3]
      · have : x = y := UInt8.toNat_inj.1 (by rw [UInt8.lt_iff_toNat_lt] at *; omega)
        subst this
        simp [h1, ih]
/-- A byte with its bits a, .. b - 1 (the highest is 0) cleared. -/
def cut8 (a b x : Nat) : Nat := if a ≤ b then x / 2 ^ (8 - a) * 2 ^ (8 - a) + x % 2 ^ (8 - b) else x
/-- The bytes with the bits n, .. i - 1 cleared. -/
def cutB (n i : Nat) : List Nat → List Nat
  | [] => []
  | x :: r => cut8 (min n 8) (min i 8) x :: cutB (n - 8) (i - 8) r
theorem cut8_same (a x : Nat) : cut8 a a x = x := by
  unfold cut8
  rw [if_pos (Nat.le_refl _)]
  exact Nat.div_add_mod' _ _
theorem cutB_len : ∀ (l : List Nat) (n i : Nat), (cutB n i l).length = l.length
  | [], _, _ => rfl
  | x :: r, n, i => by simp [cutB, cutB_len r]
theorem cutB_start : ∀ (l : List Nat) (n : Nat), cutB n n l = l
  | [], _ => rfl
  | x :: r, n => by simp only [cutB, cut8_same, cutB_start r]
theorem cutB_end : ∀ (l : List Nat) (n i : Nat), n ≤ i → 8 * l.length ≤ i → cutB n i l = maskB n l
  | [], _, _, _, _ => rfl
  | x :: r, n, i, h, k => by
    simp only [List.length_cons] at k
    simp only [cutB, maskB, cutB_end r (n - 8) (i - 8) (by omega) (by omega)]
    congr 1
    unfold cut8 keep8
    rw [if_pos (by omega), show min i 8 = 8 by omega]
    simp [Nat.mod_one]
theorem cut8_le (a b x : Nat) : cut8 a b x ≤ x := by
  unfold cut8
  split
  · have h1 := Nat.div_add_mod' x (2 ^ (8 - a))
    have h2 : x % 2 ^ (8 - b) ≤ x % 2 ^ (8 - a) := by
      rename_i hab
      rw [show x % 2 ^ (8 - b) = (x % 2 ^ (8 - a)) % 2 ^ (8 - b) from (Nat.mod_mod_of_dvd _ (Nat.pow_dvd_pow 2 (by omega))).symm]
      exact Nat.mod_le _ _
    omega
  · exact Nat.le_refl _
theorem cutB_le : ∀ (l : List Nat) (n i : Nat), (∀ z ∈ l, z ≤ 255) → ∀ z ∈ cutB n i l, z ≤ 255
  | [], _, _, _, _, h => by simp [cutB] at h
  | x :: r, n, i, h, z, hz => by
    simp only [cutB, List.mem_cons] at hz
    rcases hz with rfl | hz
    · exact Nat.le_trans (cut8_le _ _ _) (h x (by simp))
    · exact cutB_le r _ _ (fun z hz => h z (by simp [hz])) z hz
theorem cutB_at : ∀ (l : List Nat) (n i k : Nat), (cutB n i l)[k]? = l[k]?.map (cut8 (min (n - 8 * k) 8) (min (i - 8 * k) 8))
  | [], _, _, _ => by simp [cutB]
  | x :: r, n, i, 0 => by simp [cutB]
  | x :: r, n, i, k + 1 => by
    simp only [cutB, List.getElem?_cons_succ]
    rw [cutB_at r, show n - 8 - 8 * k = n - 8 * (k + 1) by omega, show i - 8 - 8 * k = i - 8 * (k + 1) by omega]
/-- One bit more. -/
theorem cut8_next (a b x : Nat) (h : a ≤ b) (hb : b < 8) : (cut8 a b x / 2 ^ (7 - b) % 2 = 1 → cut8 a (b + 1) x = cut8 a b x - 2 ^ (7 - b)) ∧ (cut8 a b x / 2 ^ (7 - b) % 2 ≠ 1 → cut8 a (b + 1) x = cut8 a b x) := by
  have hp : (2 : Nat) ^ (8 - b) = 2 ^ (7 - b) * 2 := by rw [← Nat.pow_succ]; congr 1; omega
  obtain ⟨c, hc⟩ : ∃ c, 2 ^ (8 - a) = 2 ^ (8 - b) * c := ⟨2 ^ ((8 - a) - (8 - b)), by rw [← Nat.pow_add]; congr 1; omega⟩
  have hpos : 0 < (2 : Nat) ^ (7 - b) := Nat.two_pow_pos _
  unfold cut8
  rw [if_pos h, if_pos (by omega), show 8 - (b + 1) = 7 - b by omega]
  rw [hc, hp]
  generalize hP : 2 ^ (7 - b) = P at *
  have e1 : x / (P * 2 * c) * (P * 2 * c) = P * (2 * (x / (P * 2 * c) * c)) := by
    generalize x / (P * 2 * c) = q
    rw [Nat.mul_comm q, Nat.mul_assoc, Nat.mul_assoc, Nat.mul_comm c q]
  rw [e1]
  generalize x / (P * 2 * c) * c = m
  have e2 : x % P = x % (P * 2) % P := (Nat.mod_mul_right_mod x P 2).symm
  have e3 : x % (P * 2) < P * 2 := Nat.mod_lt _ (by omega)
  rw [e2]
  generalize x % (P * 2) = r at e3
  have e4 : (P * (2 * m) + r) / P = 2 * m + r / P := Nat.mul_add_div hpos _ _
  rw [e4]
  by_cases hr : r < P
  · rw [Nat.div_eq_of_lt hr, Nat.mod_eq_of_lt hr]
    exact ⟨fun h => by omega, fun _ => rfl⟩
  · have d1 : r / P = 1 := Nat.div_eq_of_lt_le (by omega) (by omega)
    have d2 : r % P = r - P := by rw [Nat.mod_eq_sub_mod (by omega), Nat.mod_eq_of_lt (by omega)]
    rw [d1, d2]
    exact ⟨fun _ => by omega, fun h => by omega⟩
theorem cutB_other (l : List Nat) (n i : Nat) (k : Nat) (h : n ≤ i) (hk : k ≠ i / 8) : (cutB n (i + 1) l)[k]? = (cutB n i l)[k]? := by
  rw [cutB_at, cutB_at]
  have : min (i + 1 - 8 * k) 8 = min (i - 8 * k) 8 := by omega
  rw [this]
theorem cutB_here (l : List Nat) (n i x : Nat) (h : n ≤ i) (hx : (cutB n i l)[i / 8]? = some x) :
    (x / 2 ^ (7 - i % 8) % 2 = 1 → (cutB n (i + 1) l)[i / 8]? = some (x - 2 ^ (7 - i % 8))) ∧ (x / 2 ^ (7 - i % 8) % 2 ≠ 1 → (cutB n (i + 1) l)[i / 8]? = some x) := by
  rw [cutB_at] at hx
  rw [cutB_at]
  cases hl : l[i / 8]? with
  | none => rw [hl] at hx; cases hx
  | some y =>
    rw [hl] at hx
    simp only [Option.map_some, Option.some.injEq] at hx ⊢
    have e1 : min (i - 8 * (i / 8)) 8 = i % 8 := by omega
    have e2 : min (i + 1 - 8 * (i / 8)) 8 = i % 8 + 1 := by omega
    rw [e1] at hx
    rw [e2]
    have := cut8_next (min (n - 8 * (i / 8)) 8) (i % 8) y (by omega) (by omega)
    rw [hx] at this
    exact this
theorem cutB_next_on (l : List Nat) (n i x : Nat) (h : n ≤ i) (hx : (cutB n i l)[i / 8]? = some x) (hb : x / 2 ^ (7 - i % 8) % 2 = 1) : (cutB n i l).set (i / 8) (x - 2 ^ (7 - i % 8)) = cutB n (i + 1) l := by
  apply List.ext_getElem?
  intro k
  by_cases hk : k = i / 8
  · subst hk
    rw [(cutB_here l n i x h hx).1 hb, List.getElem?_set_self (List.getElem?_eq_some_iff.1 hx).1]
  · rw [cutB_other l n i k h hk, List.getElem?_set_ne (fun e => hk e.symm)]
theorem cutB_next_off (l : List Nat) (n i x : Nat) (h : n ≤ i) (hx : (cutB n i l)[i / 8]? = some x) (hb : x / 2 ^ (7 - i % 8) % 2 ≠ 1) : cutB n i l = cutB n (i + 1) l := by
  apply List.ext_getElem?
  intro k
  by_cases hk : k = i / 8
  · subst hk
    rw [(cutB_here l n i x h hx).2 hb, hx]
  · rw [cutB_other l n i k h hk]
theorem bit_val (x P : Nat) (hx : x ≤ 255) : (wrap64 ((x : Int) / (P : Int))).tmod 2 = ((x / P % 2 : Nat) : Int) := by
  have hq : x / P ≤ 255 := Nat.le_trans (Nat.div_le_self _ _) hx
  have e2 : (x : Int) / (P : Int) = ((x / P : Nat) : Int) := (Int.natCast_ediv x P).symm
  rw [e2]
  generalize x / P = q at hq
  rw [IntWalk.wrap64_in (q : Int) (by omega), Int.tmod_eq_emod_of_nonneg (by omega)]
  rfl
theorem nums_ints (s : ByteArray) : nums s = ints (bts s) := by
  unfold nums ints bts
  rw [List.map_map]
  rfl
theorem mask_eq (s p : ByteArray) (b : Nat) : ((maskS s b).toList == (maskS p b).toList) = decide (maskB b (bts s) = maskB b (bts p)) := by
  rw [Bool.eq_iff_iff, beq_iff_eq, decide_eq_true_eq, ByteArray.toList_eq, ByteArray.toList_eq]
  constructor
  · intro h
    have e : maskS s b = maskS p b := ByteArray.ext (Array.toList_inj.1 h)
    have := congrArg bts e
    rwa [bts_mask, bts_mask] at this
  · intro h
    unfold maskS
    rw [h]

end Go.Proofs.Ytnabjhdamofpgaa.AdrD
