/- Plain sums: what one's complement sums of words are, as integers. No program is named here. -/
namespace Go.Proofs.YtjeenmeoiidmnaaDoor.Sums

/-- The word that an integer stands for. -/
def wd (n : Int) : Int := n % 65536
theorem wd_lo (n : Int) : 0 ≤ wd n := by unfold wd; omega
theorem wd_hi (n : Int) : wd n ≤ 65535 := by unfold wd; omega
theorem wd_id {n : Int} (h : 0 ≤ n) (k : n ≤ 65535) : wd n = n := by unfold wd; omega

/-- The one's complement sum of two words. -/
def add (a b : Int) : Int := if 65535 < wd a + wd b then wd a + wd b - 65535 else wd a + wd b
theorem add_lo (a b : Int) : 0 ≤ add a b := by have := wd_lo a; have := wd_lo b; unfold add; split <;> omega
theorem add_hi (a b : Int) : add a b ≤ 65535 := by have := wd_hi a; have := wd_hi b; unfold add; split <;> omega
theorem add_comm (a b : Int) : add a b = add b a := by unfold add; rw [Int.add_comm]
theorem add_zero {a : Int} (h : 0 ≤ a) (k : a ≤ 65535) : add a 0 = a := by unfold add wd; split <;> omega

/-- The sum of a row of bytes onto a number. -/
def sums : Int → List Int → Int
  | s, [] => s
  | s, [a] => add s (256 * a)
  | s, a :: b :: r => sums (add s (256 * a + b)) r

/-- The first word of a row of bytes. -/
def first : List Int → Int
  | [] => 0
  | [a] => 256 * a
  | a :: b :: _ => 256 * a + b

theorem sums_step (s : Int) (l : List Int) (h : l ≠ []) : sums s l = sums (add s (first l)) (l.drop 2) := by
  match l, h with
  | [a], _ => simp [sums, first]
  | a :: b :: r, _ => simp [sums, first]

theorem sums_in (l : List Int) (s : Int) (h : 0 ≤ s) (k : s ≤ 65535) : 0 ≤ sums s l ∧ sums s l ≤ 65535 := by
  match l with
  | [] => exact ⟨h, k⟩
  | [a] => exact ⟨add_lo _ _, add_hi _ _⟩
  | a :: b :: r => exact sums_in r _ (add_lo _ _) (add_hi _ _)
  termination_by l.length

/-- A row of bytes. -/
def Bytes (l : List Int) : Prop := ∀ z ∈ l, 0 ≤ z ∧ z ≤ 255
theorem Bytes.drop {l : List Int} (h : Bytes l) (n : Nat) : Bytes (l.drop n) := fun z hz => h z (List.mem_of_mem_drop hz)
theorem Bytes.take {l : List Int} (h : Bytes l) (n : Nat) : Bytes (l.take n) := fun z hz => h z (List.mem_of_mem_take hz)
theorem Bytes.append {l m : List Int} (h : Bytes l) (k : Bytes m) : Bytes (l ++ m) := fun z hz => (List.mem_append.1 hz).elim (h z) (k z)
theorem Bytes.at_ {l : List Int} (h : Bytes l) (i : Nat) (k : i < l.length) : 0 ≤ l[i] ∧ l[i] ≤ 255 := h _ (List.getElem_mem k)

/-- The number of a row's check. -/
def check (l : List Int) : Int := 65535 - sums 0 l
theorem check_in (l : List Int) : 0 ≤ check l ∧ check l ≤ 65535 := by have := sums_in l 0 (by omega) (by omega); unfold check; omega

def turn (c was now : Int) : Int := 65535 - add (add (65535 - wd c) (65535 - wd was)) now

end Go.Proofs.YtjeenmeoiidmnaaDoor.Sums
