/- Numbers to the base 16 that are read off texts. No program is named here. -/
namespace Go.Proofs.YtggahoocgijdkaaDoor.Hex

/-- A digit's number; none: it is none. -/
def dv (c : UInt8) : Option Nat :=
  if 48 ≤ c.toNat ∧ c.toNat ≤ 57 then some (c.toNat - 48) else if 65 ≤ c.toNat ∧ c.toNat ≤ 70 then some (c.toNat - 55) else if 97 ≤ c.toNat ∧ c.toNat ≤ 102 then some (c.toNat - 87) else none

/-- The number of the digits behind m. -/
def hexP (m : Nat) : List UInt8 → Option Nat
  | [] => some m
  | c :: r => match dv c with
    | none => none
    | some d => if 65535 < m * 16 + d then none else hexP (m * 16 + d) r

/-- The number of a text. -/
def hexV (l : List UInt8) : Option Nat := if l = [] then none else hexP 0 l

theorem hexP_no {m : Nat} {c : UInt8} {r : List UInt8} (h : dv c = none) : hexP m (c :: r) = none := by simp [hexP, h]
theorem hexP_over {m d : Nat} {c : UInt8} {r : List UInt8} (h : dv c = some d) (k : 65535 < m * 16 + d) : hexP m (c :: r) = none := by simp [hexP, h, k]
theorem hexP_on {m d : Nat} {c : UInt8} {r : List UInt8} (h : dv c = some d) (k : ¬ 65535 < m * 16 + d) : hexP m (c :: r) = hexP (m * 16 + d) r := by simp [hexP, h, k]

theorem low_cases (c : UInt8) :
    (48 ≤ c.toNat ∧ c.toNat ≤ 57 ∧ dv c = some (c.toNat - 48)) ∨
    (¬ (48 ≤ c.toNat ∧ c.toNat ≤ 57) ∧ 97 ≤ (c ||| 32).toNat ∧ (c ||| 32).toNat ≤ 102 ∧ dv c = some ((c ||| 32).toNat - 87)) ∨
    (¬ (48 ≤ c.toNat ∧ c.toNat ≤ 57) ∧ 103 ≤ (c ||| 32).toNat ∧ (c ||| 32).toNat ≤ 122 ∧ dv c = none) ∨
    (¬ (48 ≤ c.toNat ∧ c.toNat ≤ 57) ∧ ¬ (97 ≤ (c ||| 32).toNat ∧ (c ||| 32).toNat ≤ 122) ∧ dv c = none) := by
  have all : ∀ i : Fin 256, (48 ≤ (UInt8.ofNat i.val).toNat ∧ (UInt8.ofNat i.val).toNat ≤ 57 ∧ dv (UInt8.ofNat i.val) = some ((UInt8.ofNat i.val).toNat - 48)) ∨
    (¬ (48 ≤ (UInt8.ofNat i.val).toNat ∧ (UInt8.ofNat i.val).toNat ≤ 57) ∧ 97 ≤ (UInt8.ofNat i.val ||| 32).toNat ∧ (UInt8.ofNat i.val ||| 32).toNat ≤ 102 ∧ dv (UInt8.ofNat i.val) = some ((UInt8.ofNat i.val ||| 32).toNat - 87)) ∨
    (¬ (48 ≤ (UInt8.ofNat i.val).toNat ∧ (UInt8.ofNat i.val).toNat ≤ 57) ∧ 103 ≤ (UInt8.ofNat i.val ||| 32).toNat ∧ (UInt8.ofNat i.val ||| 32).toNat ≤ 122 ∧ dv (UInt8.ofNat i.val) = none) ∨
    (¬ (48 ≤ (UInt8.ofNat i.val).toNat ∧ (UInt8.ofNat i.val).toNat ≤ 57) ∧ ¬ (97 ≤ (UInt8.ofNat i.val ||| 32).toNat ∧ (UInt8.ofNat i.val ||| 32).toNat ≤ 122) ∧ dv (UInt8.ofNat i.val) = none) := by decide +kernel
  have := all ⟨c.toNat, c.toNat_lt⟩
  simpa only [UInt8.ofNat_toNat] using this

end Go.Proofs.YtggahoocgijdkaaDoor.Hex
