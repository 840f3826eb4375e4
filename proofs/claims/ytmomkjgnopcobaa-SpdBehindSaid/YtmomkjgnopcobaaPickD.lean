/- Selectors and flows: plain facts. -/
import Derived.Test.YtmomkjgnopcobaaAhead
set_option linter.unusedVariables false
namespace Go.Proofs.Ytmomkjgnopcobaa.PickD
open Go.Proofs.Ytmomkjgnopcobaa.Ahead

/-- Texts in order. -/
def lt (a b : ByteArray) : Bool := Op.bytesLess a.toList b.toList
theorem less_irr : ∀ l : List UInt8, Op.bytesLess l l = false
  | [] => rfl
  | x :: l => by
    unfold Op.bytesLess
    simp [less_irr l, UInt8.lt_irrefl]
theorem lt_irr (a : ByteArray) : lt a a = false := less_irr _
theorem less_asym : ∀ a b : List UInt8, Op.bytesLess a b = true → Op.bytesLess b a = false
  | [], [] => fun h => by simp [Op.bytesLess] at h
  | [], _ :: _ => fun _ => by simp [Op.bytesLess]
  | _ :: _, [] => fun h => by simp [Op.bytesLess] at h
  | x :: a, y :: b => fun h => by
    unfold Op.bytesLess at h ⊢
    have ih := less_asym a b
    by_cases h1 : x < y
    · have h2 : ¬ y < x := fun e => by rw [UInt8.lt_iff_toNat_lt] at *; omega
      have h3 : ¬ y = x := fun e => by subst e; exact h2 h1
      simp [h2, h3]
    · by_cases h2 : x = y
      · subst h2
        simp [UInt8.lt_irrefl] at h ⊢
        exact ih h
      · simp [h1, h2] at h
theorem lt_asym {a b : ByteArray} (h : lt a b = true) : lt b a = false := less_asym _ _ h
def emp (s : ByteArray) : Bool := s.toList.isEmpty
/-- A range of addresses; of ports. -/
def spanB (l h : ByteArray) : Bool := (emp l && emp h) || (paired l h && !lt h l)
def portsB (l h : Int) : Bool := decide (0 ≤ l) && (decide (l ≤ h) && decide (h ≤ 65535))
def inB (a l h : ByteArray) : Bool := emp l || (decide (a.size = l.size) && (!lt a l && !lt h a))
def portB (n l h : Int) : Bool := if n < 0 then decide (l = 0) && decide (h = 65535) else decide (l ≤ n) && decide (n ≤ h)
structure Pk where
  (hl hh tl th : ByteArray) (pr nl nh fl fh : Int)
structure Fl where
  (here there : ByteArray) (pr near far : Int)
def mayP (p : Pk) : Bool := spanB p.hl p.hh && (spanB p.tl p.th && (decide (-1 ≤ p.pr) && (decide (p.pr ≤ 255) && (portsB p.nl p.nh && portsB p.fl p.fh))))
def matB (p : Pk) (f : Fl) : Bool := mayP p && (inB f.here p.hl p.hh && (inB f.there p.tl p.th && ((decide (p.pr = -1) || decide (p.pr = f.pr)) && (portB f.near p.nl p.nh && portB f.far p.fl p.fh))))
def turned (f : Fl) : Fl := ⟨f.there, f.here, f.pr, f.far, f.near⟩
def has (pr : Int) : Bool := decide (pr = 6) || decide (pr = 17)
def two (l : List Int) (k : Nat) : Int := 256 * l.getD k 0 + l.getD (k + 1) 0
def ofE (src dst : ByteArray) (pr : Int) (n : Nat) : Nat := if (paired src dst && (decide (0 ≤ pr) && decide (pr ≤ 255))) = false then 1 else if (has pr && decide (n < 4)) = true then 8 else 0
def ofF (src dst : ByteArray) (pr : Int) (l : List Int) (out : Bool) : Fl := if out then ⟨src, dst, pr, if has pr then two l 0 else -1, if has pr then two l 2 else -1⟩ else ⟨dst, src, pr, if has pr then two l 2 else -1, if has pr then two l 0 else -1⟩
def zeroF : Fl := ⟨⟨#[]⟩, ⟨#[]⟩, 0, 0, 0⟩
def ofR (src dst : ByteArray) (pr : Int) (l : List Int) (out : Bool) : Fl := if ofE src dst pr l.length = 0 then ofF src dst pr l out else zeroF
theorem turned_twice (f : Fl) : turned (turned f) = f := rfl
end Go.Proofs.Ytmomkjgnopcobaa.PickD
