/- The contract of the document's Pseudo: the sum of what stands ahead, or the error. -/
import Derived.Test.YthmleabmklnmcaaDoorPseudo
import Derived.Test.YthmleabmklnmcaaDoorBoth
import Derived.Test.YthmleabmklnmcaaDoorRefSum
namespace Go.Proofs.YthmleabmklnmcaaDoor.RefPseudo
open Go.RowKit Go.Proofs.YthmleabmklnmcaaDoor.Sums Go.Proofs.YthmleabmklnmcaaDoor.Words Go.Proofs.YthmleabmklnmcaaDoor.Mem Go.Proofs.YthmleabmklnmcaaDoor.InetSum Go.Proofs.YthmleabmklnmcaaDoor.RefSum Go.Proofs.YthmleabmklnmcaaDoor.Both Go.Proofs.YthmleabmklnmcaaDoor.Pseudo

theorem two_any (n : Int) (w : World) (n0 : 0 ≤ n) (n1 : n ≤ 65535) :
    Calls Tryd.prog 29 #[.int .i64 n] w fun e w' => ∃ A c, e = .returned (.slice A 2 c) ∧ Holds w' w'.heap.size A 2 c [n / 256, n % 256] ∧ Below w.heap.size w w' := by
  have hB : Bytes [n / 256, n % 256] := by intro z hz; simp at hz; omega
  go_enter Tryd.func29, Tryd.ntmps29
  go_wp2
  go_ret
  exact ⟨_, _, rfl, by simpa using Holds.lit w [n / 256, n % 256] _ rfl (by simp [maxLen]) hB, (Below.refl _ _).alloc (Nat.le_refl _) _⟩

theorem four_any (n : Int) (w : World) (n0 : 0 ≤ n) (n1 : n ≤ 4294967295) :
    Calls Tryd.prog 27 #[.int .i64 n] w fun e w' => ∃ A c, e = .returned (.slice A 4 c) ∧ Holds w' w'.heap.size A 4 c [n / 16777216, n / 65536 % 256, n / 256 % 256, n % 256] ∧ Below w.heap.size w w' := by
  have hB : Bytes [n / 16777216, n / 65536 % 256, n / 256 % 256, n % 256] := by intro z hz; simp at hz; omega
  go_enter Tryd.func27, Tryd.ntmps27
  go_wp2
  go_ret
  exact ⟨_, _, rfl, by simpa using Holds.lit w [n / 16777216, n / 65536 % 256, n / 256 % 256, n % 256] _ rfl (by simp [maxLen]) hB, (Below.refl _ _).alloc (Nat.le_refl _) _⟩

theorem nums_append (s d : ByteArray) : nums (s ++ d) = nums s ++ nums d := by simp [nums, ByteArray.data_append]

theorem ref4 (s d : ByteArray) (p n : Int) (w : World) (hs : s.size = 4) (hd : d.size = 4) (p0 : 0 ≤ p) (p1 : p ≤ 255) (n0 : 0 ≤ n) (n1 : n ≤ 65535) :
    Calls Tryd.prog 43 #[.string s, .string d, .int .i64 p, .int .i64 n] w fun e w' =>
      e = .returned (.tuple #[.int .i64 (sums 0 (nums s ++ (nums d ++ [0, p, n / 256, n % 256]))), .int .i64 0]) ∧ Below w.heap.size w w' := by
  have g1 : ((s.size : Int) == 4) = true := by simp; omega
  have g2 : ((s.size : Int) != (d.size : Int)) = false := by simp; omega
  have g3 : ((s.size : Int) != 4) = false := by simp; omega
  have g4 : ((s.size : Int) != 16) = true := by simp; omega
  have hz : (s ++ d).size = s.size + d.size := ByteArray.size_append
  obtain ⟨w1, v1, hr, ho, hb⟩ := run_bytes_string w (s ++ d) (by simp only [maxLen]; omega)
  obtain ⟨A1, c1, rfl, hh1⟩ := ho.slice
  have hb1 := hb.size
  have hsd' : s.size + d.size ≤ 32 := by omega
  have hB : Bytes [0, p] := by intro z hz; simp at hz; omega
  rw [hz] at hh1 hr
  clear hs hd hz ho
  go_enter Tryd.func43, Tryd.ntmps43
  go_wp2_with fail
  have k0 := Holds.lit w1 [0, p] #[.int .u8 0, .int .u8 p] rfl (by simp [maxLen]) hB
  have k1 := (hh1.below ((Below.refl _ w1).alloc (Nat.le_refl _) (.cells #[.int .u8 0, .int .u8 p] 5)))
  refine (two_any _ _ n0 n1).mono ?_
  rintro e w2 ⟨A2, c2, rfl, k2, hb2⟩
  have hb4 : Below w.heap.size w w2 := (hb.alloc hb1 _).trans (hb2.mono (by simp; omega))
  have hz2 := hb2.size
  simp at hz2
  have k0' := (k0.below (hb2.mono (by simp))).more (B' := w2.heap.size) (by omega)
  have k1' := (k1.below (hb2.mono (by simp))).more (B' := w2.heap.size) (by omega)
  clear k0 k1
  go_wp2_with fail
  refine (both_lit (Nat.le_refl w2.heap.size) [⟨A1, s.size + d.size, c1, nums (s ++ d)⟩, ⟨some ⟨w1.heap.size, 0, none⟩, 2, 2, [0, p]⟩, ⟨A2, 2, c2, [n / 256, n % 256]⟩] _ _ rfl (mem3 k1' k0' k2) _ _ (by simp) rfl (by simp) (by simp [total]; omega)).mono ?_
  rintro e w3 ⟨A3, c3, rfl, k4, _, hb3⟩
  have hf : Hid (flat [⟨A1, s.size + d.size, c1, nums (s ++ d)⟩, ⟨some ⟨w1.heap.size, 0, none⟩, 2, 2, [0, p]⟩, ⟨A2, 2, c2, [n / 256, n % 256]⟩] = nums s ++ (nums d ++ [0, p, n / 256, n % 256])) := Lib.hid (by simp [flat, nums_append])
  rw [hf.out] at k4
  go_wp2_with fail
  refine (sum_ref _ _ _ _ _ _ k4 (by simp [total]; omega)).mono ?_
  rintro e w' ⟨rfl, rfl⟩
  go_wp2_with fail
  go_ret2
  exact ⟨rfl, hb4.trans (hb3.mono hb4.size)⟩

theorem ref6 (s d : ByteArray) (p n : Int) (w : World) (hs : s.size = 16) (hd : d.size = 16) (p0 : 0 ≤ p) (p1 : p ≤ 255) (n0 : 0 ≤ n) (n1 : n ≤ 4294967295) :
    Calls Tryd.prog 43 #[.string s, .string d, .int .i64 p, .int .i64 n] w fun e w' =>
      e = .returned (.tuple #[.int .i64 (sums 0 (nums s ++ (nums d ++ [n / 16777216, n / 65536 % 256, n / 256 % 256, n % 256, 0, 0, 0, p]))), .int .i64 0]) ∧ Below w.heap.size w w' := by
  have g1 : ((s.size : Int) == 4) = false := by simp; omega
  have g2 : ((s.size : Int) != (d.size : Int)) = false := by simp; omega
  have g3 : ((s.size : Int) != 4) = true := by simp; omega
  have g4 : ((s.size : Int) != 16) = false := by simp; omega
  have hz : (s ++ d).size = s.size + d.size := ByteArray.size_append
  obtain ⟨w1, v1, hr, ho, hb⟩ := run_bytes_string w (s ++ d) (by simp only [maxLen]; omega)
  obtain ⟨A1, c1, rfl, hh1⟩ := ho.slice
  have hb1 := hb.size
  have hsd' : s.size + d.size ≤ 32 := by omega
  have hB : Bytes [0, 0, 0, p] := by intro z hz; simp at hz; omega
  rw [hz] at hh1 hr
  clear hs hd hz ho
  go_enter Tryd.func43, Tryd.ntmps43
  go_wp2_with fail
  refine (four_any _ _ n0 n1).mono ?_
  rintro e w2 ⟨A2, c2, rfl, k2, hb2⟩
  have hb5 : Below w.heap.size w w2 := hb.trans (hb2.mono hb1)
  have hz5 := hb5.size
  have k0 := Holds.lit w2 [0, 0, 0, p] #[.int .u8 0, .int .u8 0, .int .u8 0, .int .u8 p] rfl (by simp [maxLen]) hB
  have hb4 : Below w.heap.size w (w2.alloc (.cells #[.int .u8 0, .int .u8 0, .int .u8 0, .int .u8 p] 5)) := hb5.alloc hz5 _
  have k1 := ((hh1.below hb2).more hb2.size).below ((Below.refl _ w2).alloc (Nat.le_refl _) (.cells #[.int .u8 0, .int .u8 0, .int .u8 0, .int .u8 p] 5))
  have k1' := k1.more (B' := w2.heap.size + 1) (by omega)
  have k2' := (k2.below ((Below.refl _ w2).alloc (Nat.le_refl _) (.cells #[.int .u8 0, .int .u8 0, .int .u8 0, .int .u8 p] 5))).more (B' := w2.heap.size + 1) (by omega)
  clear k1 k2
  go_wp2_with fail
  refine (both_lit (B := w2.heap.size + 1) (by simp) [⟨A1, s.size + d.size, c1, nums (s ++ d)⟩, ⟨A2, 4, c2, [n / 16777216, n / 65536 % 256, n / 256 % 256, n % 256]⟩, ⟨some ⟨w2.heap.size, 0, none⟩, 4, 4, [0, 0, 0, p]⟩] _ _ rfl (mem3 k1' k2' k0) _ _ (by simp) rfl (by simp) (by simp [total]; omega)).mono ?_
  rintro e w3 ⟨A3, c3, rfl, k4, _, hb3⟩
  have hf : Hid (flat [⟨A1, s.size + d.size, c1, nums (s ++ d)⟩, ⟨A2, 4, c2, [n / 16777216, n / 65536 % 256, n / 256 % 256, n % 256]⟩, ⟨some ⟨w2.heap.size, 0, none⟩, 4, 4, [0, 0, 0, p]⟩] = nums s ++ (nums d ++ [n / 16777216, n / 65536 % 256, n / 256 % 256, n % 256, 0, 0, 0, p])) := Lib.hid (by simp [flat, nums_append])
  rw [hf.out] at k4
  go_wp2_with fail
  refine (sum_ref _ _ _ _ _ _ k4 (by simp [total]; omega)).mono ?_
  rintro e w' ⟨rfl, rfl⟩
  go_wp2_with fail
  go_ret2
  exact ⟨rfl, hb4.trans (hb3.mono hb4.size)⟩

/-- Refused by what it is told. -/
theorem ref_told (s d : ByteArray) (p n : Int) (w : World)
    (h : ((s.size : Int) != (d.size : Int)) = true ∨ (((s.size : Int) != (d.size : Int)) = false ∧ ((s.size : Int) != 4) = true ∧ ((s.size : Int) != 16) = true) ∨
      (((s.size : Int) != (d.size : Int)) = false ∧ ((s.size : Int) != 4) = false ∧ (p < 0 ∨ (0 ≤ p ∧ 255 < p) ∨ (0 ≤ p ∧ p ≤ 255 ∧ n < 0))) ∨
      (((s.size : Int) != (d.size : Int)) = false ∧ ((s.size : Int) != 4) = true ∧ ((s.size : Int) != 16) = false ∧ (p < 0 ∨ (0 ≤ p ∧ 255 < p) ∨ (0 ≤ p ∧ p ≤ 255 ∧ n < 0)))) :
    Calls Tryd.prog 43 #[.string s, .string d, .int .i64 p, .int .i64 n] w fun e w' => e = .returned (.tuple #[.int .i64 0, .int .i64 1]) ∧ Below w.heap.size w w' := by
  rcases h with g1 | ⟨g1, g2, g3⟩ | ⟨g1, g2, p0 | ⟨p0, p1⟩ | ⟨p0, p1, n0⟩⟩ | ⟨g1, g2, g3, p0 | ⟨p0, p1⟩ | ⟨p0, p1, n0⟩⟩
  all_goals
    go_enter Tryd.func43, Tryd.ntmps43
    go_wp2_with fail
    go_ret2
    exact ⟨rfl, Below.refl _ _⟩

/-- Refused by its length. -/
theorem ref_long (s d : ByteArray) (p n : Int) (w : World) (p0 : 0 ≤ p) (p1 : p ≤ 255) (hsd : s.size = d.size) (h : (s.size = 4 ∧ 65535 < n) ∨ (s.size = 16 ∧ 4294967295 < n)) :
    Calls Tryd.prog 43 #[.string s, .string d, .int .i64 p, .int .i64 n] w fun e w' => e = .returned (.tuple #[.int .i64 0, .int .i64 1]) ∧ Below w.heap.size w w' := by
  have hz : (s ++ d).size = s.size + d.size := ByteArray.size_append
  obtain ⟨w1, v1, hr, ho, hb⟩ := run_bytes_string w (s ++ d) (by simp only [maxLen]; omega)
  have hsd' : s.size + d.size ≤ 32 := by omega
  have g2 : ((s.size : Int) != (d.size : Int)) = false := by simp; omega
  have way : (((s.size : Int) == 4) = true ∧ ((s.size : Int) != 4) = false ∧ ((s.size : Int) != 16) = true ∧ 65535 < n) ∨ (((s.size : Int) == 4) = false ∧ ((s.size : Int) != 4) = true ∧ ((s.size : Int) != 16) = false ∧ 4294967295 < n) := by
    rcases h with ⟨h, k⟩ | ⟨h, k⟩
    · exact .inl ⟨by simp; omega, by simp; omega, by simp; omega, k⟩
    · exact .inr ⟨by simp; omega, by simp; omega, by simp; omega, k⟩
  clear hsd h hz ho
  rcases way with ⟨g1, g3, g4, k⟩ | ⟨g1, g3, g4, k⟩
  all_goals
    go_enter Tryd.func43, Tryd.ntmps43
    go_wp2_with fail
    go_ret2
    exact ⟨rfl, hb⟩

theorem ref_refused (s d : ByteArray) (p n : Int) (w : World) (h : p < 0 ∨ 255 < p ∨ n < 0 ∨ lng s.size d.size < n) :
    Calls Tryd.prog 43 #[.string s, .string d, .int .i64 p, .int .i64 n] w fun e w' => e = .returned (.tuple #[.int .i64 0, .int .i64 1]) ∧ Below w.heap.size w w' := by
  by_cases hsd : s.size = d.size
  · have g1 : ((s.size : Int) != (d.size : Int)) = false := by simp; omega
    by_cases h4 : s.size = 4
    · have e : lng s.size d.size = 65535 := by unfold lng; rw [if_pos ⟨h4, hsd ▸ h4⟩]
      rw [e] at h
      have g2 : ((s.size : Int) != 4) = false := by simp; omega
      by_cases hp : p < 0 ∨ (0 ≤ p ∧ 255 < p) ∨ (0 ≤ p ∧ p ≤ 255 ∧ n < 0)
      · exact ref_told s d p n w (.inr (.inr (.inl ⟨g1, g2, hp⟩)))
      · exact ref_long s d p n w (by omega) (by omega) hsd (.inl ⟨h4, by omega⟩)
    · have g2 : ((s.size : Int) != 4) = true := by simp; omega
      by_cases h6 : s.size = 16
      · have e : lng s.size d.size = 4294967295 := by unfold lng; rw [if_neg (by omega), if_pos ⟨h6, hsd ▸ h6⟩]
        rw [e] at h
        have g3 : ((s.size : Int) != 16) = false := by simp; omega
        by_cases hp : p < 0 ∨ (0 ≤ p ∧ 255 < p) ∨ (0 ≤ p ∧ p ≤ 255 ∧ n < 0)
        · exact ref_told s d p n w (.inr (.inr (.inr ⟨g1, g2, g3, hp⟩)))
        · exact ref_long s d p n w (by omega) (by omega) hsd (.inr ⟨h6, by omega⟩)
      · exact ref_told s d p n w (.inr (.inl ⟨g1, g2, by simp; omega⟩))
  · exact ref_told s d p n w (.inl (by simp; omega))

end Go.Proofs.YthmleabmklnmcaaDoor.RefPseudo
