/- The options that every piece carries: plain texts. Stage 3's optsS tells which options a text holds. -/
import Derived.Test.YtibfdacgdffpiaaDoorOpts
import Derived.Test.YtibfdacgdffpiaaDoorBytes
set_option linter.unusedVariables false
namespace Go.Proofs.YtibfdacgdffpiaaDoor.SplL
open Go.RowKit Go.Proofs.YtibfdacgdffpiaaDoor.Sums Go.Proofs.YtibfdacgdffpiaaDoor.Mem Go.Proofs.YtibfdacgdffpiaaDoor.Opts

def encL (xs : List (Int × ByteArray)) : List Int := xs.flatMap fun x => if 128 ≤ x.1 then x.1 :: ((x.2.size : Int) + 2) :: nums x.2 else []
def padL (l : List Int) : List Int := l ++ List.replicate ((4 - l.length % 4) % 4) 0
/-- The options that come later. -/
def laterL (s : ByteArray) : Option (List Int) := (optsS s).map fun xs => padL (encL xs)
theorem pad_len (l : List Int) : (padL l).length % 4 = 0 ∧ (padL l).length < l.length + 4 ∧ l.length ≤ (padL l).length := by
  unfold padL
  rw [List.length_append, List.length_replicate]
  omega
theorem enc_nil : encL [] = [] := rfl
theorem enc_cons (k : Int) (d : ByteArray) (xs : List (Int × ByteArray)) : encL ((k, d) :: xs) = (if 128 ≤ k then k :: ((d.size : Int) + 2) :: nums d else []) ++ encL xs := rfl
theorem enc_snoc (xs : List (Int × ByteArray)) (k : Int) (d : ByteArray) : encL (xs ++ [(k, d)]) = encL xs ++ (if 128 ≤ k then k :: ((d.size : Int) + 2) :: nums d else []) := by
  unfold encL
  rw [List.flatMap_append, List.flatMap_cons, List.flatMap_nil, List.append_nil]
/-- What an option of a text is; all of them are no longer than the text. -/
theorem opts_small : ∀ (m : Nat) (s : ByteArray) (xs : List (Int × ByteArray)), s.size ≤ m → optsS s = some xs → (encL xs).length ≤ s.size ∧ ∀ x ∈ xs, 0 ≤ x.1 ∧ x.1 ≤ 255 ∧ x.2.size ≤ 253 := by
  intro m
  induction m with
  | zero =>
    intro s xs hs h
    rw [optsS, dif_neg (by omega)] at h
    obtain rfl := Option.some.inj h
    exact ⟨Nat.zero_le _, fun x hx => by cases hx⟩
  | succ m ih =>
    intro s xs hs h
    rw [optsS] at h
    by_cases p : 0 < s.size
    · rw [dif_pos p] at h
      have b0 : (s[0]'p).toNat < 256 := (s[0]'p).toNat_lt
      by_cases k0 : (s[0]'p).toNat = 0
      · rw [if_pos k0] at h
        obtain rfl := Option.some.inj h
        exact ⟨Nat.zero_le _, fun x hx => by cases hx⟩
      · rw [if_neg k0] at h
        by_cases k1 : (s[0]'p).toNat = 1
        · rw [if_pos k1] at h
          obtain ⟨ys, hy, rfl⟩ := Option.map_eq_some_iff.1 h
          obtain ⟨h1, h2⟩ := ih _ ys (by rw [ByteArray.size_extract]; omega) hy
          rw [ByteArray.size_extract] at h1
          refine ⟨?_, fun x hx => ?_⟩
          · rw [enc_cons, if_neg (by decide), List.nil_append]
            omega
          · rcases List.mem_cons.1 hx with rfl | hx
            · exact ⟨by decide, by decide, Nat.zero_le _⟩
            · exact h2 x hx
        · rw [if_neg k1] at h
          by_cases p1 : 1 < s.size
          · rw [dif_pos p1] at h
            have b1 : (s[1]'p1).toNat < 256 := (s[1]'p1).toNat_lt
            by_cases bad : (s[1]'p1).toNat < 2 ∨ s.size < (s[1]'p1).toNat
            · rw [if_pos bad] at h
              cases h
            · rw [if_neg bad] at h
              obtain ⟨ys, hy, rfl⟩ := Option.map_eq_some_iff.1 h
              obtain ⟨h1, h2⟩ := ih _ ys (by rw [ByteArray.size_extract]; omega) hy
              rw [ByteArray.size_extract] at h1
              have hd : (s.extract 2 (s[1]'p1).toNat).size = (s[1]'p1).toNat - 2 := by rw [ByteArray.size_extract]; omega
              refine ⟨?_, fun x hx => ?_⟩
              · rw [enc_cons, List.length_append]
                split
                · rw [List.length_cons, List.length_cons, nums_len, hd]
                  omega
                · simp only [List.length_nil]
                  omega
              · rcases List.mem_cons.1 hx with rfl | hx
                · exact ⟨by simp, by simp; omega, by rw [hd]; omega⟩
                · exact h2 x hx
          · rw [dif_neg p1] at h
            cases h
    · rw [dif_neg p] at h
      obtain rfl := Option.some.inj h
      exact ⟨Nat.zero_le _, fun x hx => by cases hx⟩
theorem enc_bytes (xs : List (Int × ByteArray)) (h : ∀ x ∈ xs, 0 ≤ x.1 ∧ x.1 ≤ 255 ∧ x.2.size ≤ 253) : Bytes (encL xs) := by
  intro z hz
  obtain ⟨x, hx, hz⟩ := List.mem_flatMap.1 hz
  obtain ⟨h0, h1, h2⟩ := h x hx
  split at hz
  · rcases List.mem_cons.1 hz with rfl | hz
    · omega
    · rcases List.mem_cons.1 hz with rfl | hz
      · omega
      · exact nums_bytes _ z hz
  · cases hz
theorem pad_bytes {l : List Int} (h : Bytes l) : Bytes (padL l) := by
  intro z hz
  rcases List.mem_append.1 hz with hz | hz
  · exact h z hz
  · obtain ⟨_, rfl⟩ := List.mem_replicate.1 hz
    omega
/-- Later is no longer than what it comes from, and fours. -/
theorem later_small {s : ByteArray} {l : List Int} (h : laterL s = some l) (h4 : s.size % 4 = 0) : l.length ≤ s.size ∧ l.length % 4 = 0 ∧ Bytes l := by
  obtain ⟨xs, hx, rfl⟩ := Option.map_eq_some_iff.1 h
  obtain ⟨h1, h2⟩ := opts_small s.size s xs (Nat.le_refl _) hx
  obtain ⟨p1, p2, p3⟩ := pad_len (encL xs)
  exact ⟨by omega, p1, pad_bytes (enc_bytes xs h2)⟩
end Go.Proofs.YtibfdacgdffpiaaDoor.SplL
