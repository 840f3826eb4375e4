/- Options that are put one behind the other, as plain texts. -/
import Derived.Test.YtjhfginopbjldaaDoorOpts
set_option linter.unusedVariables false
namespace Go.Proofs.YtjhfginopbjldaaDoor.Enc
open Go.RowKit Go.Proofs.YtjhfginopbjldaaDoor.Sums Go.Proofs.YtjhfginopbjldaaDoor.Mem Go.Proofs.YtjhfginopbjldaaDoor.Opts

/-- A kind with its bytes that may be put down. -/
def Fine (k : Int) (d : ByteArray) : Prop := 1 ≤ k ∧ k ≤ 255 ∧ d.size ≤ 253 ∧ (k = 1 → d = ⟨#[]⟩)
def enc1 (k : Int) (d : ByteArray) : ByteArray := if k = 1 then ⟨#[1]⟩ else strOfNums [k, (d.size : Int) + 2] ++ d
def enc : List (Int × ByteArray) → ByteArray
  | [] => ⟨#[]⟩
  | (k, d) :: r => enc1 k d ++ enc r

theorem enc_append : ∀ (a : List (Int × ByteArray)) (k : Int) (d : ByteArray), enc (a ++ [(k, d)]) = enc a ++ enc1 k d
  | [], k, d => by
    show enc1 k d ++ ByteArray.empty = ByteArray.empty ++ enc1 k d
    rw [ByteArray.append_empty, ByteArray.empty_append]
  | (k', d') :: r, k, d => by
    rw [List.cons_append, enc, enc, enc_append r k d, ByteArray.append_assoc]
theorem enc1_size (k : Int) (d : ByteArray) (h : d.size ≤ 253) : (enc1 k d).size ≤ 255 := by
  unfold enc1
  split
  · show 1 ≤ 255; omega
  · rw [ByteArray.size_append]
    show 2 + d.size ≤ 255; omega
theorem enc_size : ∀ l : List (Int × ByteArray), (∀ k d, (k, d) ∈ l → Fine k d) → (enc l).size ≤ 255 * l.length
  | [], _ => Nat.le_refl _
  | (k, d) :: r, h => by
    rw [enc, ByteArray.size_append, List.length_cons]
    have h1 := enc1_size k d (h k d (by simp)).2.2.1
    have h2 := enc_size r fun k d hm => h k d (by simp [hm])
    omega

theorem opts_one (k : Int) (d t : ByteArray) (h : Fine k d) : optsS (enc1 k d ++ t) = (optsS t).map ((k, d) :: ·) := by
  obtain ⟨k0, k1, hd, h1⟩ := h
  by_cases e : k = 1
  · have hd' := h1 e
    subst hd' e
    have es : enc1 1 ⟨#[]⟩ = ⟨#[1]⟩ := rfl
    have hsz : (enc1 1 ⟨#[]⟩ ++ t).size = 1 + t.size := by rw [ByteArray.size_append]; rfl
    have hp : 0 < (enc1 1 ⟨#[]⟩ ++ t).size := by omega
    have g0 : (enc1 1 ⟨#[]⟩ ++ t)[0]'hp = 1 := by
      rw [ByteArray.getElem_append_left (by decide)]; rfl
    have x1 : (enc1 1 ⟨#[]⟩ ++ t).extract 1 (enc1 1 ⟨#[]⟩ ++ t).size = t := ByteArray.extract_append_eq_right rfl (by rw [ByteArray.size_append])
    rw [optsS, dif_pos hp, g0, if_neg (by decide), if_pos (by decide), x1]
  · obtain ⟨m, rfl⟩ : ∃ m : Nat, k = (m : Int) := ⟨k.toNat, by omega⟩
    have es : enc1 (m : Int) d = strOfNums [(m : Int), (d.size : Int) + 2] ++ d := if_neg e
    have q : strOfNums [(m : Int), (d.size : Int) + 2] = ⟨#[UInt8.ofNat m, UInt8.ofNat (d.size + 2)]⟩ := by
      have e2 : ((d.size : Int) + 2).toNat = d.size + 2 := by omega
      simp [strOfNums, e2]
    rw [es, q, ByteArray.append_assoc]
    generalize hT : (⟨#[UInt8.ofNat m, UInt8.ofNat (d.size + 2)]⟩ : ByteArray) ++ (d ++ t) = T
    have hsz : T.size = 2 + (d.size + t.size) := by rw [← hT, ByteArray.size_append, ByteArray.size_append]; rfl
    have hp : 0 < T.size := by omega
    have hp1 : 1 < T.size := by omega
    have g0 : (T[0]'hp).toNat = m := by
      subst hT
      rw [ByteArray.getElem_append_left (by show 0 < 2; decide)]
      show (UInt8.ofNat m).toNat = m
      simp; omega
    have g1 : (T[1]'hp1).toNat = d.size + 2 := by
      subst hT
      rw [ByteArray.getElem_append_left (by show 1 < 2; decide)]
      show (UInt8.ofNat (d.size + 2)).toNat = d.size + 2
      simp; omega
    have x1 : T.extract (d.size + 2) T.size = t := by
      rw [← hT, ← ByteArray.append_assoc]
      exact ByteArray.extract_append_eq_right (by rw [ByteArray.size_append]; show d.size + 2 = 2 + d.size; omega) (by simp only [ByteArray.size_append])
    have x2 : T.extract 2 (d.size + 2) = d := by
      rw [← hT]
      have := ByteArray.extract_append_size_add' (a := ⟨#[UInt8.ofNat m, UInt8.ofNat (d.size + 2)]⟩) (b := d ++ t) (i := 0) (j := d.size) (k := 2) rfl
      rw [show d.size + 2 = 2 + d.size from Nat.add_comm _ _, ← Nat.add_zero 2] at *
      rw [this]
      exact ByteArray.extract_append_eq_left rfl
    rw [optsS, dif_pos hp, if_neg (by omega), if_neg (by omega), dif_pos hp1, if_neg (by omega), g0, g1, x1, x2]

theorem opts_enc : ∀ (l : List (Int × ByteArray)) (t : ByteArray), (∀ k d, (k, d) ∈ l → Fine k d) → optsS (enc l ++ t) = (optsS t).map (l ++ ·)
  | [], t, _ => by
    show optsS (ByteArray.empty ++ t) = _
    rw [ByteArray.empty_append]
    simp
  | (k, d) :: r, t, h => by
    rw [enc, ByteArray.append_assoc, opts_one k d _ (h k d (by simp)), opts_enc r t fun k d hm => h k d (by simp [hm]), Option.map_map]
    rfl
theorem opts_all (l : List (Int × ByteArray)) (h : ∀ k d, (k, d) ∈ l → Fine k d) : optsS (enc l) = some l := by
  have := opts_enc l ByteArray.empty h
  rw [ByteArray.append_empty] at this
  rw [this, optsS, dif_neg (by decide)]
  simp
theorem opts_end (l : List (Int × ByteArray)) (t : ByteArray) (h : ∀ k d, (k, d) ∈ l → Fine k d) : optsS (enc l ++ (⟨#[0]⟩ ++ t)) = some l := by
  have hsz : ((⟨#[0]⟩ : ByteArray) ++ t).size = 1 + t.size := by rw [ByteArray.size_append]; rfl
  have hp : 0 < ((⟨#[0]⟩ : ByteArray) ++ t).size := by omega
  have g0 : ((⟨#[0]⟩ : ByteArray) ++ t)[0]'hp = 0 := by
    rw [ByteArray.getElem_append_left (by decide)]; rfl
  rw [opts_enc l _ h, optsS, dif_pos hp, g0, if_pos (by decide)]
  simp
end Go.Proofs.YtjhfginopbjldaaDoor.Enc
