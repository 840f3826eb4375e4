/- A text, parted by a byte. Nothing of the program stands here. -/
import Derived.Lib.Split
import Derived.Lib.SplitLaws
import Derived.Lib.IndexLaws
set_option linter.unusedVariables false
namespace Go.Proofs.YtggahoocgijdkaaDoor.Split
open Go.Lib (splitB splitK countB index count indexByte)

def parts (c : UInt8) : List UInt8 → List (List UInt8)
  | [] => [[]]
  | x :: r => if x = c then [] :: parts c r else match parts c r with
    | [] => [[x]]
    | p :: ps => (x :: p) :: ps

theorem parts_ne (c : UInt8) : ∀ l, parts c l ≠ []
  | [] => by simp [parts]
  | x :: r => by
    unfold parts
    split
    · simp
    · split <;> simp
theorem parts_none {c : UInt8} : ∀ {l : List UInt8}, c ∉ l → parts c l = [l]
  | [], _ => rfl
  | x :: r, h => by
    have hx : x ≠ c := fun e => h (by simp [e])
    have hr := parts_none (c := c) (l := r) (fun e => h (by simp [e]))
    unfold parts
    rw [if_neg hx, hr]
theorem parts_hit {c : UInt8} : ∀ {a : List UInt8} (r : List UInt8), c ∉ a → parts c (a ++ c :: r) = a :: parts c r
  | [], r, _ => by simp [parts]
  | x :: a, r, h => by
    have hx : x ≠ c := fun e => h (by simp [e])
    have ih := parts_hit (c := c) (a := a) r (fun e => h (List.mem_cons_of_mem _ e))
    rw [List.cons_append, parts, if_neg hx, ih]

theorem indexOne (c : UInt8) : ∀ l : List UInt8, index l [c] = indexByte l c
  | [] => rfl
  | x :: l => by
    unfold index indexByte
    rw [indexOne c l]
    by_cases h : x = c
    · subst h; simp [List.isPrefixOf]
    · have h1 : (x == c) = false := by simpa using h
      have h2 : (c == x) = false := by simpa using fun e : c = x => h e.symm
      simp [List.isPrefixOf, h1, h2]

theorem split_parts (c : UInt8) : ∀ (n : Nat) (l : List UInt8), l.length ≤ n → splitK [c] 0 (count l [c]) l = parts c l := by
  intro n
  induction n with
  | zero =>
    intro l hl
    have : l = [] := List.eq_nil_of_length_eq_zero (by omega)
    subst this
    rfl
  | succ n ih =>
    intro l hl
    have hge := Lib.index_ge l [c]
    by_cases h : index l [c] = -1
    · have hb : indexByte l c = -1 := by rw [← indexOne]; exact h
      rw [Lib.count_miss h, parts_none (fun hm => by
        obtain ⟨k, hk⟩ := List.mem_iff_getElem?.1 hm
        exact Lib.indexByte_none hb k hk)]
      rfl
    · obtain ⟨i, hi⟩ : ∃ i : Nat, index l [c] = i := ⟨(index l [c]).toNat, by omega⟩
      have hb : indexByte l c = i := by rw [← indexOne]; exact hi
      obtain ⟨hc, hno⟩ := Lib.indexByte_some hb
      obtain ⟨hil, hce⟩ := List.getElem?_eq_some_iff.1 hc
      have hl2 : l = l.take i ++ c :: l.drop (i + 1) := by
        have := (List.take_append_drop i l).symm
        rwa [List.drop_eq_getElem_cons hil, hce] at this
      have hni : c ∉ l.take i := by
        intro hm
        obtain ⟨k, hk⟩ := List.mem_iff_getElem?.1 hm
        rw [List.getElem?_take] at hk
        split at hk
        · exact hno k (by omega) hk
        · cases hk
      have hcnt : count l [c] = 1 + count (l.drop (i + 1)) [c] := Lib.count_hit (by simp) hi
      rw [hcnt, Nat.add_comm 1, splitK, if_neg (by rw [hi]; simp), hi]
      simp only [Int.toNat_natCast, Nat.add_zero, List.length_singleton]
      rw [ih (l.drop (i + 1)) (by rw [List.length_drop]; omega)]
      conv => rhs; rw [hl2]
      rw [parts_hit _ hni]

/-- The parts that the library hands back. -/
theorem split_data (s : ByteArray) (c : UInt8) : (splitB ⟨#[c]⟩ 0 (countB s ⟨#[c]⟩) s).map (·.data.toList) = parts c s.data.toList := by
  rw [Lib.splitB_data]
  exact split_parts c _ _ (Nat.le_refl _)

theorem parts_len {c : UInt8} : ∀ (l : List UInt8), ∀ p ∈ parts c l, p.length ≤ l.length
  | [], p, h => by simp [parts] at h; subst h; simp
  | x :: r, p, h => by
    have ih := parts_len (c := c) r
    unfold parts at h
    split at h
    · rcases List.mem_cons.1 h with rfl | h
      · simp
      · have := ih p h; simp only [List.length_cons]; omega
    · split at h
      · simp at h; subst h; simp
      · rename_i q qs he
        rw [he] at ih
        rcases List.mem_cons.1 h with rfl | h
        · have := ih q (by simp); simp only [List.length_cons]; omega
        · have := ih p (by simp [h]); simp only [List.length_cons]; omega

theorem parts_count {c : UInt8} : ∀ (l : List UInt8), (parts c l).length ≤ l.length + 1
  | [] => by simp [parts]
  | x :: r => by
    have ih := parts_count (c := c) r
    unfold parts
    split
    · simp only [List.length_cons]; omega
    · split
      · simp
      · rename_i q qs he
        rw [he] at ih
        simp only [List.length_cons] at ih ⊢
        omega

end Go.Proofs.YtggahoocgijdkaaDoor.Split
